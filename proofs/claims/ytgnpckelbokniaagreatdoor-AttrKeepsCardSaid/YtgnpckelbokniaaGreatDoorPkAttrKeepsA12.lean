import Derived.Test.YtgnpckelbokniaaGreatDoorPkAttrKeepsA00
import Derived.Test.YtgnpckelbokniaaGreatDoorPkAttrKeepsA01
import Derived.Test.YtgnpckelbokniaaGreatDoorPkAttrKeepsA03
import Derived.Test.YtgnpckelbokniaaGreatDoorPkAttrKeepsA04
import Derived.Test.YtgnpckelbokniaaGreatDoorPkAttrKeepsA05
import Derived.Test.YtgnpckelbokniaaGreatDoorPkAttrKeepsA06
import Derived.Test.YtgnpckelbokniaaGreatDoorPkAttrKeepsA07
import Derived.OrdersHeld
import Derived.WalkKit
import Derived.Lib.Hide
import Derived.Deep.RegionHeld3
import Derived.Deep.MidRow
import Derived.ProofKit
import Derived.WalkSpells
import Derived.Below
import Derived.Deep.Draws
import Derived.Laws.Rows
import Derived.ArgAppend
import Derived.Laws.IdiomCopy
import Derived.Maps.AppendAt
import Derived.Deep.RegionLaw
import Derived.OwnWalk
import Derived.Outline
import Derived.Handy
import Derived.LoopTactic
import Derived.RegionTactic
import Derived.ChangeAlike
import Derived.BigRegion
import Derived.Deep.QuietTactic
import Derived.BigQuiet
import Derived.Deep.DeepMust
import Derived.Deep.CutRange
import Derived.Deep.DeepCutAuto
import Derived.Deep.LoopGhost
import Derived.StillTailTactics
import Derived.Laws.AppendOwnNone
import Derived.Lib.AppendZeros
import Derived.Laws.CopyOwn
import Derived.Laws.BytesArg
import Derived.Shelf.Abstract
import Derived.Laws.StructEq
import Derived.Lib.IndexMore
import Derived.Lib.Join
import Derived.Lib.SmallJoins
import Derived.Lib.AppendIntMem
import Derived.Deep.Slices
import Derived.Lib.SplitLaws
import Derived.Deep.Fields
import Derived.OpenShut
import Derived.ChangeOld
import Derived.ChangeSame
import Derived.SizedLaws
import Derived.HandedShaped
import Derived.Test.YtgnpckelbokniaaGreatDoorPkAttrKeepsA09
import Derived.Test.YtgnpckelbokniaaGreatDoorPkAttrKeepsA10
import Derived.Test.YtgnpckelbokniaaGreatDoorPkAttrKeepsA11
import Derived.Lib.LaidTab
import Derived.ChangeArms
import Derived.LaidLaws
namespace Go.Proofs.YtgnpckelbokniaaGreatDoor
open Go.RowKit
set_option linter.unusedVariables false
set_option linter.unusedSimpArgs false
def someM:MediaS:=⟨2,9,bs [118],3,[⟨96,bs [86,80,56],90000,1,bs [],[]⟩],[],[],false,[],[],0⟩
theorem dec_9:dec 9=[57]:=by
 unfold dec
 rfl
theorem dec_96:dec 96=[57,54]:=by
 unfold dec
 rw [dif_neg (by decide)]
 show dec 9++_=_
 rw [dec_9]
 rfl
theorem someM_good:goodM someM=true:=by
 decide +kernel
theorem someM_line:lineM someM=[118,105,100,101,111,32,57,32,82,84,80,47,83,65,86,80,70,32,57,54]:=by
 show kindW 2++32 :: (dec 9++32 :: (wStreams++(32 :: dec 96++[])))=_
 rw [dec_9,dec_96]
 rfl
theorem someM_attrs:(attrsM someM).length=3:=rfl
theorem someM_may:mayM someM=true:=by
 unfold mayM
 rw [someM_good,someM_attrs]
 rfl
theorem someM_siz:SizM someM:=by
 refine ⟨by decide,?_,?_,?_,?_,⟨?_,?_⟩,by decide⟩
 · intro c hc
   simp [someM] at hc
   subst hc
   exact ⟨by decide,by decide,fun f hf=>by cases hf⟩
 · intro c hc
   simp [someM] at hc
   subst hc
   decide
 · intro x hx;cases hx
 · intro x hx;cases hx
 · intro x hx;cases hx
 · intro x hx;cases hx
set_option maxHeartbeats 3200000 in
set_option maxRecDepth 100000 in
theorem some_any (w:World):Calls Tryz.prog 18 #[] w fun e w'=>∃M vC vE vR vS vY,e=.returned (.agg M)∧MediaV w' w'.heap.size M someM vC vE vR vS vY∧Below w.heap.size w w':=by
 have hz0:Below w.heap.size w (w.alloc (.cells #[.int .i64 0,.int .i64 0,.string ⟨#[]⟩,.int .i64 0,.slice none 0 0,.slice none 0 0,.slice none 0 0,.bool false,.slice none 0 0,.slice none 0 0,.int .i64 0] 28)):=(Below.refl _ w).alloc (Nat.le_refl _) _
 have g0:=Whole.new w 28 #[.int .i64 0,.int .i64 0,.string ⟨#[]⟩,.int .i64 0,.slice none 0 0,.slice none 0 0,.slice none 0 0,.bool false,.slice none 0 0,.slice none 0 0,.int .i64 0]
 have H0:=Lib.hid (And.intro hz0 g0)
 clear hz0 g0
 obtain ⟨N,hN⟩:∃N,w.heap.size=N:=⟨_,rfl⟩
 have HN:=Lib.hid hN
 rw [hN] at H0
 clear hN
 go_enter Tryz.func18,Tryz.ntmps18
 go_upto_region 1 with fail
 simp only [HN.out]
 generalize w.alloc (.cells #[.int .i64 0,.int .i64 0,.string ⟨#[]⟩,.int .i64 0,.slice none 0 0,.slice none 0 0,.slice none 0 0,.bool false,.slice none 0 0,.slice none 0 0,.int .i64 0] 28)=W0 at *
 have HG:Hid (Whole (W0.alloc (.cells #[.int .i64 96,.string ⟨#[86,80,56]⟩,.int .i64 90000,.int .i64 1,.string ⟨#[]⟩,.slice none 0 0] 31)) N 28 #[.int .i64 0,.int .i64 0,.string ⟨#[]⟩,.int .i64 0,.slice none 0 0,.slice none 0 0,.slice none 0 0,.bool false,.slice none 0 0,.slice none 0 0,.int .i64 0]):=Lib.hid (H0.out.2.alloc _)
 have HC:Hid (Whole (W0.alloc (.cells #[.int .i64 96,.string ⟨#[86,80,56]⟩,.int .i64 90000,.int .i64 1,.string ⟨#[]⟩,.slice none 0 0] 31)) W0.heap.size 31 #[.int .i64 96,.string ⟨#[86,80,56]⟩,.int .i64 90000,.int .i64 1,.string ⟨#[]⟩,.slice none 0 0]):=Lib.hid (Whole.new _ _ _)
 have HB:Hid (Below N w (W0.alloc (.cells #[.int .i64 96,.string ⟨#[86,80,56]⟩,.int .i64 90000,.int .i64 1,.string ⟨#[]⟩,.slice none 0 0] 31))):=Lib.hid (H0.out.1.alloc (by have:=H0.out.1.size;rw [HN.out] at this;exact this) _)
 have HFIN:Hid (∀W,W=(W0.alloc (.cells #[.int .i64 96,.string ⟨#[86,80,56]⟩,.int .i64 90000,.int .i64 1,.string ⟨#[]⟩,.slice none 0 0] 31)).setRow N #[.int .i64 2,.int .i64 9,.string ⟨#[118]⟩,.int .i64 3,.slice (some ⟨W0.heap.size,0,none⟩) 1 1,.slice none 0 0,.slice none 0 0,.bool false,.slice none 0 0,.slice none 0 0,.int .i64 0] →
  ∃M vC vE vR vS vY,Ending.returned (.agg #[.int .i64 2,.int .i64 9,.string ⟨#[118]⟩,.int .i64 3,.slice (some ⟨W0.heap.size,0,none⟩) 1 1,.slice none 0 0,.slice none 0 0,.bool false,.slice none 0 0,.slice none 0 0,.int .i64 0])=.returned (.agg M)∧MediaV W W.heap.size M someM vC vE vR vS vY∧Below w.heap.size w W):=Lib.hid (by
  rintro W rfl
  have hc:Whole ((W0.alloc (.cells #[.int .i64 96,.string ⟨#[86,80,56]⟩,.int .i64 90000,.int .i64 1,.string ⟨#[]⟩,.slice none 0 0] 31)).setRow N #[.int .i64 2,.int .i64 9,.string ⟨#[118]⟩,.int .i64 3,.slice (some ⟨W0.heap.size,0,none⟩) 1 1,.slice none 0 0,.slice none 0 0,.bool false,.slice none 0 0,.slice none 0 0,.int .i64 0]) W0.heap.size 31 #[.int .i64 96,.string ⟨#[86,80,56]⟩,.int .i64 90000,.int .i64 1,.string ⟨#[]⟩,.slice none 0 0]:=HC.out.farRow (HC.out.ne HG.out (by decide)) _
  refine ⟨_,_,_,_,_,_,rfl,⟨rfl,?_,Rows.nil _ _ _ _,Rows.nil _ _ _ _,Rows.nil _ _ _ _,Rows.nil _ _ _ _⟩,by rw [HN.out];exact below_row HB.out (Nat.le_refl _) _⟩
  refine ⟨some ⟨W0.heap.size,0,none⟩,1,rfl,by decide,by decide,(fun e=>by cases e),fun _=>⟨_,rfl,hc.lt,fun i x hx=> ?_⟩⟩
  have hi:i=0:=by
   have:=(List.getElem?_eq_some_iff.1 hx).1
   simp [someM] at this
   exact this
  subst hi
  have hx:x=⟨96,bs [86,80,56],90000,1,bs [],[]⟩:=by
   simp [someM] at hx
   exact hx.symm
  subst hx
  refine ⟨hc.cell 0,hc.cell 1,hc.cell 2,hc.cell 3,hc.cell 4,_,hc.cell 5,Rows.nil _ _ _ _⟩)
 go_wp2_with (first | ((with_reducible refine wpList_storeS #[.int .i64 2,.int .i64 9,.string ⟨#[118]⟩,.int .i64 3,.slice (some ⟨W0.heap.size,0,none⟩) 1 1,.slice none 0 0,.slice none 0 0,.bool false,.slice none 0 0,.slice none 0 0,.int .i64 0] ?_ 28 (.tmp 0) (.tmp 3) ?_ ?_ ?_ HG.out Tryz.sizeMedia ?_ ?_ ?_ ?_);(with_reducible rfl);(with_reducible rfl);rfl;rfl;rfl;rfl;rfl) | ((with_reducible show bodyPost _ _ _ _ _ _);exact bodyPost_ret (ret_struct rfl rfl (HG.out.row _) Tryz.underlying28 rfl Tryz.sizeMedia rfl) rfl (HFIN.out _ rfl)))
set_option maxHeartbeats 3200000 in
set_option maxRecDepth 100000 in
theorem awake_any (w:World) (hE:Env w) (h7:7≤w.heap.size):Calls Tryz.prog 7 #[] w fun e w'=>e=.returned (.bool true)∧Below w.heap.size w w':=by
 have HS1:=Lib.hid (some_any w)
 have HWR:Hid (∀W M vC vE vR vS vY,Below w.heap.size w W→MediaV W W.heap.size M someM vC vE vR vS vY→Calls Tryz.prog 8 #[.agg M] W fun e w'=>∃A c,e=.returned (.tuple #[.agg #[.string ⟨#[118,105,100,101,111,32,57,32,82,84,80,47,83,65,86,80,70,32,57,54]⟩,.string ⟨#[73,78,32,73,80,52,32,48,46,48,46,48,46,48]⟩,.slice A 3 c],.int .i64 0])∧Below W.heap.size W w'):=Lib.hid fun W M vC vE vR vS vY hW hM =>
  (write_any M someM vC vE vR vS vY W hM someM_siz (hE.under hW) (Nat.le_trans h7 hW.size)).mono fun e w' h=>by
   obtain ⟨P,rfl,hb,hy,-⟩:=h
   obtain ⟨v,rfl,ho⟩:=hy someM_may
   obtain ⟨A,c,hv,-⟩:=Own.form ho
   rw [List.length_map,someM_attrs] at hv
   subst hv
   rw [if_pos someM_may,someM_line]
   exact ⟨A,c,rfl,hb⟩
 have HGD:Hid (∀W M vC vE vR vS vY,MediaV W W.heap.size M someM vC vE vR vS vY→Calls Tryz.prog 19 #[.agg M] W fun e w'=>e=.returned (.bool true)∧Below W.heap.size W w'):=Lib.hid fun W M vC vE vR vS vY hM =>
  (good_any M someM vC vE vR vS vY W hM someM_siz).mono fun e w' h=>by
   rw [someM_good] at h
   exact h
 have HS2:Hid (∀W,Calls Tryz.prog 18 #[] W fun e w'=>∃M vC vE vR vS vY,e=.returned (.agg M)∧MediaV w' w'.heap.size M someM vC vE vR vS vY∧Below W.heap.size W w'):=Lib.hid fun W=>some_any W
 clear hE h7
 go_enter Tryz.func7,Tryz.ntmps7
 go_upto_region 2 with (first | (go_at_call 18;(with_reducible refine HS1.out.mono ?_);rintro e w1 ⟨M1,C1,E1,R1,S1,Y1,rfl,hm1,hb1⟩;have H1:=Lib.hid (And.intro hm1 hb1);clear hm1 hb1;dsimp only) | (go_at_call 8;(with_reducible refine (HWR.out _ _ _ _ _ _ _ H1.out.2 H1.out.1).mono ?_);rintro e w2 ⟨A2,c2,rfl,hb2⟩;have H2:Hid (Below w.heap.size w w2):=Lib.hid (H1.out.2.trans (hb2.mono H1.out.2.size));clear hb2;have HNEW:Hid (Whole (w2.alloc (.cells #[.string ⟨#[]⟩,.string ⟨#[]⟩,.slice none 0 0] 34)) w2.heap.size 34 #[.string ⟨#[]⟩,.string ⟨#[]⟩,.slice none 0 0]):=Lib.hid (Whole.new _ _ _);dsimp only) | ((with_reducible refine wpList_storeS #[.string ⟨#[118,105,100,101,111,32,57,32,82,84,80,47,83,65,86,80,70,32,57,54]⟩,.string ⟨#[73,78,32,73,80,52,32,48,46,48,46,48,46,48]⟩,.slice A2 3 c2] ?_ 34 (.tmp 1) (.tmp 6) ?_ ?_ ?_ HNEW.out Tryz.sizeSPart ?_ ?_ ?_ ?_);(with_reducible rfl);(with_reducible rfl);rfl;rfl;rfl;rfl;rfl))
 have H3:Hid (Below w.heap.size w ((w2.alloc (.cells #[.string ⟨#[]⟩,.string ⟨#[]⟩,.slice none 0 0] 34)).setRow w2.heap.size #[.string ⟨#[118,105,100,101,111,32,57,32,82,84,80,47,83,65,86,80,70,32,57,54]⟩,.string ⟨#[73,78,32,73,80,52,32,48,46,48,46,48,46,48]⟩,.slice A2 3 c2])∧Whole ((w2.alloc (.cells #[.string ⟨#[]⟩,.string ⟨#[]⟩,.slice none 0 0] 34)).setRow w2.heap.size #[.string ⟨#[118,105,100,101,111,32,57,32,82,84,80,47,83,65,86,80,70,32,57,54]⟩,.string ⟨#[73,78,32,73,80,52,32,48,46,48,46,48,46,48]⟩,.slice A2 3 c2]) w2.heap.size 34 #[.string ⟨#[118,105,100,101,111,32,57,32,82,84,80,47,83,65,86,80,70,32,57,54]⟩,.string ⟨#[73,78,32,73,80,52,32,48,46,48,46,48,46,48]⟩,.slice A2 3 c2]):=Lib.hid ⟨H2.out.trans ((below_row ((Below.refl _ w2).alloc (Nat.le_refl _) _) (Nat.le_refl _) _).mono H2.out.size),HNEW.out.row _⟩
 generalize ((w2.alloc (.cells #[.string ⟨#[]⟩,.string ⟨#[]⟩,.slice none 0 0] 34)).setRow w2.heap.size #[.string ⟨#[118,105,100,101,111,32,57,32,82,84,80,47,83,65,86,80,70,32,57,54]⟩,.string ⟨#[73,78,32,73,80,52,32,48,46,48,46,48,46,48]⟩,.slice A2 3 c2])=w3 at *
 generalize w2.heap.size=g at *
 have c0:w3.cell? ⟨g,0,none⟩=some (.string ⟨#[118,105,100,101,111,32,57,32,82,84,80,47,83,65,86,80,70,32,57,54]⟩):=H3.out.2.cell 0
 have c2':w3.cell? ⟨g,2,none⟩=some (.slice A2 3 c2):=H3.out.2.cell 2
 clear HNEW H1
 go_wp2_with (first | (go_at_call 18;(with_reducible refine (HS2.out _).mono ?_);rintro e w4 ⟨M4,C4,E4,R4,S4,Y4,rfl,hm4,hb4⟩;have H4:=Lib.hid (And.intro hm4 (H3.out.1.trans (hb4.mono H3.out.1.size)));clear hm4 hb4;dsimp only) | (go_at_call 19;(with_reducible refine (HGD.out _ _ _ _ _ _ _ H4.out.1).mono ?_);rintro e w5 ⟨rfl,hb5⟩;have H5:=Lib.hid (H4.out.2.trans (hb5.mono H4.out.2.size));clear hb5;dsimp only))
 go_ret
 exact ⟨rfl,H5.out⟩
section
variable {w:World} {base:Nat} {e:TypeId} {sz:Nat} {v:Value} {ks rs:List (List Value)}
theorem run_appendRows {T:TypeId} {z:Value} {by_:Nat} (ty:TypeId) (hT:Tryz.prog.underlying T=some (.slice e)) (hi:(Tryz.prog.info? e).map (fun i=>(i.zero,i.size,i.bytes))=some (some z,sz,by_)) (hz:z.cells.size=sz) (hsz:0<sz) (hown:Own w base e sz v ks)
 {A:Option Addr} {n c:Nat} (hA:A=none→c=0) (hnc:n≤c) (hn:rs.length=n) (hr:∀r∈rs,r.length=sz) (hu:∀r∈rs,∀u∈r,u.oneCell'=true)
 (hL:∀ad,A=some ad→∀i r,rs[i]? = some r→∀j,j<sz→w.cell? (ad.add (i * sz+j))=r[j]?) (h63:(ks.length+n) * by_≤140737488355328) (h64:ks.length+n≤140737488355328) (hbase:base≤w.heap.size) :
 ∃v' w',(Builtin.append_ #[T,T] ty #[v,.slice A n c]).run Tryz.prog w=.ok v' w'∧Own w' base e sz v' (ks++rs)∧w.grownBy w' v.ownBlock∧(v'.ownBlock=v.ownBlock∨v'.ownBlock=some w.heap.size):=by
 obtain ⟨i0,hi0,hz0,hz1,hz2⟩:=info_parts hi
 cases A with
 | none =>
   have hc:=hA rfl
   subst hc
   obtain rfl:n=0:=by omega
   obtain rfl:rs=[]:=List.eq_nil_of_length_eq_zero hn
   refine ⟨v,w,run_append_owned_none (P:=Tryz.prog) (w:=w) base T ty e i0 sz hT hi0 v ks.length ks.flatten hown.1,by rw [List.append_nil];exact hown,⟨rfl,rfl,rfl,Nat.le_refl _,fun _ _ _=>rfl⟩,.inl rfl⟩
 | some ad =>
   have hfl:rs.flatten.length=n * sz:=by rw [flatten_len hr,hn]
   obtain ⟨v',w',hrun,h2,h3,_,h5⟩:=run_append_own_at (P:=Tryz.prog) w base T ty e i0 z sz by_ hT hi0 hz0 hz1 hz2 hz (by omega) v ks.length ks.flatten hown.1 ad n c rs.flatten hfl
    (fun j u hj=>by
      have hjl:j<n * sz:=by rw [←hfl];exact (List.getElem?_eq_some_iff.1 hj).1
      have hq:j / sz<rs.length:=by rw [hn];exact Nat.div_lt_of_lt_mul (by rw [Nat.mul_comm];exact hjl)
      have hx:=List.getElem?_eq_getElem hq
      have hm:j % sz<sz:=Nat.mod_lt j hsz
      have hf:=flatten_at hr hx hm
      have e2:j / sz * sz+j % sz=j:=Nat.div_add_mod' j sz
      rw [e2] at hf
      have:=hL ad rfl (j / sz) _ hx (j % sz) hm
      rw [e2] at this
      rw [this,←hf]
      exact hj)
    (fun u hu2=>by
      obtain ⟨r,hr2,hur⟩:=List.mem_flatten.1 hu2
      exact hu r hr2 u hur) (by unfold maxLen;omega) h63 hbase
   refine ⟨v',w',hrun,⟨?_,fun q hq=> ?_⟩,h3,h5⟩
   · rw [List.flatten_append,List.length_append,hn]
     exact h2
   · rcases List.mem_append.1 hq with hq | hq
     · exact hown.2 q hq
     · exact hr q hq
theorem wp_appendRows {o:Oper} {a:Act} {K:Act→World→Prop} {Q:Exit→Act→World→Prop} {T:TypeId} {z:Value} {by_:Nat} (s y:Operand) (ho:o.op=.call {callee:=.builtin .append,args:=#[s,y],argTypes:=#[T,T]})
 (hT:Tryz.prog.underlying T=some (.slice e)) (hi:(Tryz.prog.info? e).map (fun i=>(i.zero,i.size,i.bytes))=some (some z,sz,by_)) (hz:z.cells.size=sz) (hsz:0<sz) (hs:a.eval s=v) (hown:Own w base e sz v ks)
 {A:Option Addr} {n c:Nat} (hy:a.eval y=.slice A n c) (hA:A=none→c=0) (hnc:n≤c) (hn:rs.length=n) (hr:∀r∈rs,r.length=sz) (hu:∀r∈rs,∀u∈r,u.oneCell'=true)
 (hL:∀ad,A=some ad→∀i r,rs[i]? = some r→∀j,j<sz→w.cell? (ad.add (i * sz+j))=r[j]?) (h63:(ks.length+n) * by_≤140737488355328) (h64:ks.length+n≤140737488355328) (hbase:base≤w.heap.size)
 (h:∀v' w',Own w' base e sz v' (ks++rs)→w.grownBy w' v.ownBlock→(v'.ownBlock=v.ownBlock∨v'.ownBlock=some w.heap.size)→K (a.put o.dst v') w'):o.wp Tryz.prog a w K Q:=by
 obtain ⟨v',w',hrun,h2,h3,h4⟩:=run_appendRows o.type hT hi hz hsz hown hA hnc hn hr hu hL h63 h64 hbase
 unfold Oper.wp execOp
 simp only [ho,resolve,invoke,builtin,Sem.run_bind,Sem.run_pure,Result.andThen_ok,List.map_toArray,List.map_cons,List.map_nil,hs,hy,hrun]
 exact h v' w' h2 h3 h4
theorem wpList_appendRows {ops:Array Oper} {rest:List Oper} {o:Oper} {a:Act} {Q:Exit→Act→World→Prop} (hgd:o.guard=none) {T:TypeId} {z:Value} {by_:Nat} (s y:Operand) (ho:o.op=.call {callee:=.builtin .append,args:=#[s,y],argTypes:=#[T,T]})
 (hT:Tryz.prog.underlying T=some (.slice e)) (hi:(Tryz.prog.info? e).map (fun i=>(i.zero,i.size,i.bytes))=some (some z,sz,by_)) (hz:z.cells.size=sz) (hsz:0<sz) (hs:a.eval s=v) (hown:Own w base e sz v ks)
 {A:Option Addr} {n c:Nat} (hy:a.eval y=.slice A n c) (hA:A=none→c=0) (hnc:n≤c) (hn:rs.length=n) (hr:∀r∈rs,r.length=sz) (hu:∀r∈rs,∀u∈r,u.oneCell'=true)
 (hL:∀ad,A=some ad→∀i r,rs[i]? = some r→∀j,j<sz→w.cell? (ad.add (i * sz+j))=r[j]?) (h63:(ks.length+n) * by_≤140737488355328) (h64:ks.length+n≤140737488355328) (hbase:base≤w.heap.size)
 (h:∀v' w',Own w' base e sz v' (ks++rs)→w.grownBy w' v.ownBlock→(v'.ownBlock=v.ownBlock∨v'.ownBlock=some w.heap.size)→wpList Tryz.prog ops Q rest (a.put o.dst v') w'):wpList Tryz.prog ops Q (o :: rest) a w :=
 wpList_plain hgd fun _ hK=>wp_appendRows s y ho hT hi hz hsz hs hown hy hA hnc hn hr hu hL h63 h64 hbase fun v' w' h2 h3 h4=>hK _ _ (h v' w' h2 h3 h4)
end
end Go.Proofs.YtgnpckelbokniaaGreatDoor
namespace Go.Proofs.YtgnpckelbokniaaGreatDoor
set_option linter.unusedVariables false
set_option linter.unusedSimpArgs false
abbrev nGroup:Tx:=[103,114,111,117,112]
abbrev nUfrag:Tx:=[105,99,101,45,117,102,114,97,103]
abbrev nPwd:Tx:=[105,99,101,45,112,119,100]
abbrev wBundle:Tx:=[66,85,78,68,76,69]
abbrev wOEnd:Tx:=[32,73,78,32,73,80,52,32,49,50,55,46,48,46,48,46,49]
structure DescS where
 id:Nat
 ver:Nat
 bundle:List ByteArray
 name:ByteArray
 pass:ByteArray
 media:List MediaS
def DescS.zero:DescS:=⟨0,0,[],bs [],bs [],[]⟩
instance:Inhabited MediaS:=⟨MediaS.zero⟩
theorem DescS.ext' {a b:DescS} (h1:a.id=b.id) (h2:a.ver=b.ver) (h3:a.bundle=b.bundle) (h4:a.name=b.name) (h5:a.pass=b.pass) (h6:a.media=b.media):a=b:=by
 cases a;cases b;simp_all
def midT (m:MediaS):Tx:=tx m.mid
def goodDM (L:List MediaS):Bool:=L.all goodM && unlike midT L
def goodDB (B:List ByteArray) (L:List MediaS):Bool:=B.all (fun b=>(L.map midT).contains (tx b)) && unlike tx B
def goodD (d:DescS):Bool:=wordP 4 32 (tx d.name) && wordP 22 32 (tx d.pass) && decide (d.media.length≤8) && goodDM d.media && goodDB d.bundle d.media
def originT (a b:Nat):Tx:=45 :: 32 :: (dec a++32 :: (dec b++wOEnd))
def groupT (B:List ByteArray):Tx:=wBundle++B.flatMap fun b=>32 :: tx b
def headA (d:DescS):List AttrS:=(if d.bundle.isEmpty then [] else [⟨bs nGroup,bs (groupT d.bundle)⟩])++[⟨bs nUfrag,d.name⟩,⟨bs nPwd,d.pass⟩]
def knownD (a:AttrS):Bool:=[nGroup,nUfrag,nPwd].contains (tx a.name)
def TypedD (d:DescS):Prop:=d.id<18446744073709551616∧d.ver<18446744073709551616∧∀m∈d.media,TypedM m
structure IsD (x:SesS) (d:DescS):Prop where
 good:goodD d=true
 origin:tx x.origin=originT d.id d.ver
 name:tx x.name=[45]
 time:tx x.time=[48,32,48]
 attrs:x.attrs.filter knownD=headA d
 len:x.parts.length=d.media.length
 parts:∀(i:Nat) (p:PartS) (m:MediaS),x.parts[i]? = some p→d.media[i]? = some m→IsM p m
theorem goodD_parts {d:DescS} (h:goodD d=true):wordP 4 32 (tx d.name)=true∧wordP 22 32 (tx d.pass)=true∧d.media.length≤8∧(∀m∈d.media,goodM m=true)∧(d.media.map midT).Nodup∧(∀b∈d.bundle,∃m∈d.media,midT m=tx b)∧(d.bundle.map tx).Nodup:=by
 unfold goodD goodDM goodDB unlike at h
 simp only [Bool.and_eq_true,decide_eq_true_eq,List.all_eq_true,List.contains_iff_mem,List.mem_map] at h
 obtain ⟨⟨⟨⟨h1,h2⟩,h3⟩,h4,h5⟩,h6,h7⟩:=h
 exact ⟨h1,h2,h3,h4,h5,h6,h7⟩
theorem goodD_bundle {d:DescS} (h:goodD d=true):∀b∈d.bundle,wordP 1 16 (tx b)=true:=fun b hb=>by
 obtain ⟨_,_,_,h4,_,h6,_⟩:=goodD_parts h
 obtain ⟨m,hm,e⟩:=h6 b hb
 rw [←e]
 exact (goodM_parts (h4 m hm)).2.1
structure DRdr where
 orig:Tx→Nat×Nat
 sp:Tx→List ByteArray
structure DRdr.Law (R:DRdr):Prop where
 orig:∀a b,a<18446744073709551616→b<18446744073709551616→R.orig (originT a b)=(a,b)
 sp:∀B:List ByteArray,(∀b∈B,∀c∈tx b,c≠32)→R.sp (groupT B)=B
def rda (R:DRdr) (d:DescS) (a:AttrS):DescS :=
 if tx a.name=nGroup then {d with bundle:=R.sp (tx a.value)}
 else if tx a.name=nUfrag then {d with name:=a.value}
 else if tx a.name=nPwd then {d with pass:=a.value}
 else d
def startD (R:DRdr) (o:Tx):DescS:={DescS.zero with id:=(R.orig o).1,ver:=(R.orig o).2}
def readD (R:DRdr) (x:SesS):DescS:=(x.attrs.filter knownD).foldl (rda R) (startD R (tx x.origin))
section
variable {R:DRdr}
theorem rda_group (d:DescS) (v:ByteArray):rda R d ⟨bs nGroup,v⟩={d with bundle:=R.sp (tx v)}:=by
 unfold rda
 simp only [tx_bs]
 rw [if_pos trivial]
theorem rda_ufrag (d:DescS) (v:ByteArray):rda R d ⟨bs nUfrag,v⟩={d with name:=v}:=by
 unfold rda
 simp only [tx_bs]
 rw [if_neg (by decide),if_pos trivial]
theorem rda_pwd (d:DescS) (v:ByteArray):rda R d ⟨bs nPwd,v⟩={d with pass:=v}:=by
 unfold rda
 simp only [tx_bs]
 rw [if_neg (by decide),if_neg (by decide),if_pos trivial]
theorem readD_head (hR:R.Law) {d:DescS} (h1:d.id<18446744073709551616) (h2:d.ver<18446744073709551616) (hb:∀b∈d.bundle,∀c∈tx b,c≠32):(headA d).foldl (rda R) (startD R (originT d.id d.ver))={d with media:=[]}:=by
 unfold headA startD
 rw [hR.orig _ _ h1 h2,List.foldl_append]
 cases hB:d.bundle with
 | nil =>
   simp only [List.isEmpty_nil,if_true,List.foldl_nil,List.foldl_cons]
   rw [rda_ufrag,rda_pwd,←hB]
   exact DescS.ext' rfl rfl hB.symm rfl rfl rfl
 | cons b B =>
   rw [←hB]
   have:d.bundle.isEmpty=false:=by rw [hB];rfl
   simp only [this,Bool.false_eq_true,if_false,List.foldl_nil,List.foldl_cons]
   rw [rda_group,rda_ufrag,rda_pwd,tx_bs,hR.sp _ hb]
   rfl
theorem IsD.read (hR:R.Law) {x:SesS} {d:DescS} (h:IsD x d) (ht:TypedD d):readD R x={d with media:=[]}:=by
 unfold readD
 rw [h.attrs,h.origin]
 exact readD_head hR ht.1 ht.2.1 fun b hb=>word_32 (goodD_bundle h.good b hb)
end
theorem IsD.one {R:DRdr} (hR:R.Law) {Q:Rdr} (hQ:Q.Law) {x:SesS} {d e:DescS} (h:IsD x d) (h':IsD x e) (hd:TypedD d) (he:TypedD e):d=e:=by
 have e1:=(h.read hR hd).symm.trans (h'.read hR he)
 have e2:d.media=e.media:=by
  apply List.ext_getElem?
  intro i
  by_cases hi:i<x.parts.length
  · have h1:i<d.media.length:=by rw [←h.len];exact hi
    have h2:i<e.media.length:=by rw [←h'.len];exact hi
    have q1:=h.parts i _ _ (List.getElem?_eq_getElem hi) (List.getElem?_eq_getElem h1)
    have q2:=h'.parts i _ _ (List.getElem?_eq_getElem hi) (List.getElem?_eq_getElem h2)
    rw [List.getElem?_eq_getElem h1,List.getElem?_eq_getElem h2,←IsM.read hQ q1 (hd.2.2 _ (List.getElem_mem _)),←IsM.read hQ q2 (he.2.2 _ (List.getElem_mem _))]
  · rw [List.getElem?_eq_none (by rw [←h.len];omega),List.getElem?_eq_none (by rw [←h'.len];omega)]
 injection e1 with a1 a2 a3 a4 a5
 exact DescS.ext' a1 a2 a3 a4 a5 e2
end Go.Proofs.YtgnpckelbokniaaGreatDoor
namespace Go.Proofs.YtgnpckelbokniaaGreatDoor
open Go.RowKit
set_option linter.unusedVariables false
set_option linter.unusedSimpArgs false
def RM (w:World) (B:Nat) (f:Nat→Option Value) (m:MediaS):Prop:=∃M vC vE vR vS vY,MediaV w B M m vC vE vR vS vY∧∀j,j<11→f j=M[j]?
def MediasV (w:World) (B:Nat) (v:Value) (L:List MediaS):Prop:=Rows w B 11 (RM w B) v L
section
variable {w w':World} {B B':Nat} {v:Value} {L:List MediaS}
theorem RM.below {f:Nat→Option Value} {m:MediaS} (h:RM w B f m) (hb:Below B w w'):RM w' B f m:=by
 obtain ⟨M,vC,vE,vR,vS,vY,h1,h2⟩:=h
 exact ⟨M,vC,vE,vR,vS,vY,h1.below hb,h2⟩
theorem RM.more {f:Nat→Option Value} {m:MediaS} (h:RM w B f m) (hB:B≤B'):RM w B' f m:=by
 obtain ⟨M,vC,vE,vR,vS,vY,h1,h2⟩:=h
 exact ⟨M,vC,vE,vR,vS,vY,h1.more hB,h2⟩
theorem MediasV.below (h:MediasV w B v L) (hb:Below B w w'):MediasV w' B v L:=Rows.below h hb fun _ _ _ h=>h.below hb
theorem MediasV.more (h:MediasV w B v L) (hB:B≤B'):MediasV w B' v L:=Rows.more (Rows.mono h fun _ _ _ h=>h.more hB) hB
theorem MediasV.nil (w:World) (B:Nat):MediasV w B (.slice none 0 0) []:=Rows.nil _ _ _ _
theorem MediasV.at_ (h:MediasV w B v L) {i:Nat} (hi:i<L.length):∃ad c M vC vE vR vS vY,v=.slice (some ad) L.length c∧ad.block<B∧MediaV w B M (L.getD i default) vC vE vR vS vY ∧
 ∀j u,M.toList[j]? = some u→w.cell? ((ad.add (i * 11)).add j)=some u:=by
 obtain ⟨ad,c,h1,h2,_,_,M,vC,vE,vR,vS,vY,h3,h4⟩:=Rows.at_ h (List.getElem?_eq_getElem hi)
 have e:L.getD i default=L[i]:=by simp [List.getD,hi]
 rw [e]
 refine ⟨ad,c,M,vC,vE,vR,vS,vY,h1,h2,h3,fun j u hu=> ?_⟩
 rw [Array.getElem?_toList] at hu
 have hj:j<11:=by
  have:=(Array.getElem?_eq_some_iff.1 hu).1
  rwa [h3.size] at this
 rw [Go.Deep.add_add]
 exact (h4 j hj).trans hu
end
theorem MediaV.one {w:World} {B:Nat} {M:Array Value} {m:MediaS} {vC vE vR vS vY:Value} (h:MediaV w B M m vC vE vR vS vY):M.toList.all (·.oneCell')=true:=by
 obtain ⟨A1,c1,rfl,-⟩:=Rows.form h.codecs
 obtain ⟨A2,c2,rfl,-⟩:=Rows.form h.exts
 obtain ⟨A3,c3,rfl,-⟩:=Rows.form h.rids
 obtain ⟨A4,c4,rfl,-⟩:=Rows.form h.sources
 obtain ⟨A5,c5,rfl,-⟩:=Rows.form h.crypto
 rw [h.form]
 rfl
structure DescV (w:World) (B:Nat) (D:Array Value) (d:DescS) (vB vM:Value):Prop where
 form:D=#[.int .u64 d.id,.int .u64 d.ver,vB,.string d.name,.string d.pass,vM]
 bundle:TextsV w B vB d.bundle
 media:MediasV w B vM d.media
section
variable {w w':World} {B B':Nat} {D:Array Value} {d:DescS} {vB vM:Value}
theorem DescV.below (h:DescV w B D d vB vM) (hb:Below B w w'):DescV w' B D d vB vM:=⟨h.form,h.bundle.below hb,h.media.below hb⟩
theorem DescV.more (h:DescV w B D d vB vM) (hB:B≤B'):DescV w B' D d vB vM:=⟨h.form,h.bundle.more hB,h.media.more hB⟩
theorem DescV.under (h:DescV w w.heap.size D d vB vM) (hb:Below w.heap.size w w'):DescV w' w'.heap.size D d vB vM:=(h.below hb).more hb.size
end
structure SizD (d:DescS):Prop where
 name:d.name.size≤140737488355328
 pass:d.pass.size≤140737488355328
 words:∀b∈d.bundle,b.size≤140737488355328
 count:d.bundle.length≤8796093021952
 few:d.media.length≤799644820177
 media:∀m∈d.media,SizM m
 ids:d.id<18446744073709551616∧d.ver<18446744073709551616
theorem SizD.typed {d:DescS} (h:SizD d):TypedD d:=⟨h.ids.1,h.ids.2,fun m hm=>(h.media m hm).typed⟩
def MaxL (w:World):Prop:=∃m,w.cell? ⟨3,0,none⟩=some (.int .i64 m)
theorem MaxL.under {w w':World} (h:MaxL w) (hb:Below w.heap.size w w'):MaxL w':=by
 obtain ⟨m,hm⟩:=h
 exact ⟨m,(hb.cell (p:=⟨3,0,none⟩) (block_lt_of_cell hm)).trans hm⟩
theorem MaxL.below {w w':World} {B:Nat} (h:MaxL w) (hb:Below B w w') (hB:3<B):MaxL w':=by
 obtain ⟨m,hm⟩:=h
 exact ⟨m,(hb.cell (p:=⟨3,0,none⟩) hB).trans hm⟩
theorem MaxL.lt {w:World} (h:MaxL w):3<w.heap.size:=by
 obtain ⟨m,hm⟩:=h
 exact block_lt_of_cell hm
end Go.Proofs.YtgnpckelbokniaaGreatDoor
namespace Go.Proofs.YtgnpckelbokniaaGreatDoor
open Go.RowKit Go.ChangeShapes Go.WideShapes Go.ChangeAt Go.Deep
set_option linter.unusedVariables false
section
variable {H:Type} {enc:TypeId×Value→H} {P:Program} {w:World} {base:Nat} {spare:Nat→Bool} {held:Bool}
theorem weights_mem_all {e:TypeId} {ds:List (DataW H)} {d:DataW H} (h:d∈ds):∀n∈d.weights P e,n∈DataW.weightsAll P e ds:=by
 induction ds with
 | nil=>cases h
 | cons d0 r ih =>
   intro n hn
   simp only [DataW.weightsAll,List.mem_append]
   rcases List.mem_cons.1 h with rfl | h
   · exact .inl hn
   · exact .inr (ih h n hn)
end
theorem pick {α:Type} {n:Nat} {R:Nat→α→Prop} (h:∀i,i<n→∃a,R i a):∃L:List α,L.length=n∧∀i a,L[i]? = some a→R i a:=by
 induction n with
 | zero=>exact ⟨[],rfl,fun i a e=>by simp at e⟩
 | succ n ih =>
   obtain ⟨L,hL,hl⟩:=ih (fun i hi=>h i (by omega))
   obtain ⟨a,ha⟩:=h n (by omega)
   refine ⟨L++[a],by simp [hL],fun i b e=> ?_⟩
   rw [List.getElem?_append] at e
   split at e
   · exact hl i b e
   · next hn =>
     have hlt:=(List.getElem?_eq_some_iff.1 e).1
     have hi:i=n:=by simp at hlt;omega
     subst hi
     rw [hL,Nat.sub_self] at e
     obtain rfl:a=b:=by simpa using e
     exact ha
section
variable {H:Type} {enc:TypeId×Value→H} {W:World} {base:Nat} {sp:Nat→Bool} {held:Bool}
theorem open_str {fuel:Nat} {v:Value} {x:DataW H×List MemPlace} (h:DataW.trod enc Tryz.prog W base sp held fuel 9 [v]=some x) (hw:∀n∈x.1.weights Tryz.prog 9,n≤140737488351232) :
 ∃s:ByteArray,v=.string s∧s.size≤140737488351232:=by
 obtain ⟨s,e,hx,_⟩:=DataW.trod_string Tryz.underlying9 h
 refine ⟨s,by simpa using e,?_⟩
 have:=hw s.data.toList.length (by rw [hx];simp [DataW.weights])
 rw [Array.length_toList] at this
 exact this
end
end Go.Proofs.YtgnpckelbokniaaGreatDoor
namespace Go.Proofs.YtgnpckelbokniaaGreatDoor
open Go.RowKit
set_option linter.unusedVariables false
set_option linter.unusedSimpArgs false
theorem CodecsV.rows6 {w:World} {B n c:Nat} {A:Option Addr} {L:List CodecS} (h:CodecsV w B (.slice A n c) L) (hn:L.length=n):∃rs:List (List Value),rs.length=n∧(∀r∈rs,r.length=6)∧(∀r∈rs,∀u∈r,u.oneCell'=true) ∧
 (∀(i:Nat) (r:List Value) (x:CodecS),rs[i]? = some r→L[i]? = some x→∃vf,r=[.int .i64 x.type,.string x.name,.int .i64 x.clock,.int .i64 x.chans,.string x.format,vf]∧TextsV w B vf x.feedback)∧∀ad,A=some ad→∀(i:Nat) (r:List Value),rs[i]? = some r→∀j,j<6→w.cell? (ad.add (i * 6+j))=r[j]? :=by
 have hat:∀i,i<n→∃r:List Value,r.length=6∧(∀u∈r,u.oneCell'=true)∧(∀x,L[i]? = some x→∃vf,r=[.int .i64 x.type,.string x.name,.int .i64 x.clock,.int .i64 x.chans,.string x.format,vf]∧TextsV w B vf x.feedback)∧∀ad,A=some ad→∀j,j<6→w.cell? (ad.add (i * 6+j))=r[j]? :=fun i hi=>by
  have hx:=List.getElem?_eq_getElem (l:=L) (i:=i) (by omega)
  obtain ⟨ad,c',e1,_,_,_,h0,h1,h2,h3,h4,vf,h5,hf⟩:=Rows.at_ h hx
  injection e1 with e1 e1n e1c
  refine ⟨[.int .i64 L[i].type,.string L[i].name,.int .i64 L[i].clock,.int .i64 L[i].chans,.string L[i].format,vf],rfl,fun u hu=> ?_,fun x hx2=> ?_,fun ad' ha j hj=> ?_⟩
  · simp only [List.mem_cons,List.not_mem_nil,or_false] at hu
    rcases hu with rfl | rfl | rfl | rfl | rfl | rfl
    · rfl
    · rfl
    · rfl
    · rfl
    · rfl
    · exact Rows.one hf
  · rw [hx] at hx2
    obtain rfl:=Option.some.inj hx2
    exact ⟨vf,rfl,hf⟩
  · rw [e1] at ha
    obtain rfl:=Option.some.inj ha
    match j,hj with
    | 0,_=>exact h0
    | 1,_=>exact h1
    | 2,_=>exact h2
    | 3,_=>exact h3
    | 4,_=>exact h4
    | 5,_=>exact h5
 obtain ⟨rs,hl,hR⟩:=pick hat
 refine ⟨rs,hl,fun r hr=> ?_,fun r hr=> ?_,fun i r x hi hx=>(hR i r hi).2.2.1 x hx,fun ad ha i r hi=>(hR i r hi).2.2.2 ad ha⟩
 · obtain ⟨i,hi⟩:=List.getElem?_of_mem hr
   exact (hR i r hi).1
 · obtain ⟨i,hi⟩:=List.getElem?_of_mem hr
   exact (hR i r hi).2.1
theorem TextsV.rows1 {w:World} {B n c:Nat} {A:Option Addr} {L:List ByteArray} (h:TextsV w B (.slice A n c) L) (hn:L.length=n):(L.map fun s=>[Value.string s]).length=n∧(∀r∈L.map fun s=>[Value.string s],r.length=1)∧(∀r∈L.map fun s=>[Value.string s],∀u∈r,u.oneCell'=true) ∧
 ∀ad,A=some ad→∀(i:Nat) (r:List Value),(L.map fun s=>[Value.string s])[i]? = some r→∀j,j<1→w.cell? (ad.add (i * 1+j))=r[j]? :=by
 refine ⟨by rw [List.length_map,hn],fun r hr=> ?_,fun r hr u hu=> ?_,fun ad ha i r hr j hj=> ?_⟩
 · obtain ⟨s,-,rfl⟩:=List.mem_map.1 hr
   rfl
 · obtain ⟨s,-,rfl⟩:=List.mem_map.1 hr
   simp only [List.mem_singleton] at hu
   subst hu
   rfl
 · obtain rfl:j=0:=by omega
   rw [List.getElem?_map] at hr
   obtain ⟨s,hs,rfl⟩:=Option.map_eq_some_iff.1 hr
   have hil:=(List.getElem?_eq_some_iff.1 hs).1
   obtain ⟨ad',c',e1,hlt,hc⟩:=h.at_ hil
   injection e1 with e1 _ _
   rw [ha] at e1
   obtain rfl:=Option.some.inj e1
   have e2:L.getD i default=s:=by rw [List.getD_eq_getElem?_getD,hs];rfl
   rw [e2] at hc
   rw [Nat.mul_one,Nat.add_zero]
   exact hc
def c77:CodecS:={type:=77,name:=⟨#[]⟩,clock:=0,chans:=0,format:=⟨#[]⟩,feedback:=[]}
theorem own_codecs1 {W w:World} {base N n k:Nat} {A:Option Addr} {L:List CodecS} {rs:List (List Value)} (h:Own W base 31 6 (.slice A (n+1) k) (rs++[[Value.int .i64 77,Value.string ⟨#[]⟩,Value.int .i64 0,Value.int .i64 0,Value.string ⟨#[]⟩,Value.slice none 0 0]])) (hl:L.length=n) (hrs:rs.length=n)
 (hv:∀(i:Nat) (r:List Value) (x:CodecS),rs[i]? = some r→L[i]? = some x→∃vf,r=[.int .i64 x.type,.string x.name,.int .i64 x.clock,.int .i64 x.chans,.string x.format,vf]∧TextsV w N vf x.feedback) (hb:Below N w W) (hN:N≤W.heap.size):CodecsV W W.heap.size (.slice A n k) L:=by
 have h1:CodecsV W W.heap.size (.slice A (n+1) k) (L++[c77]):=Own.rows h (Nat.le_refl _) (by simp [hl,hrs]) (fun i r x f hr hx hf=>by
  by_cases hi:i<n
  · rw [List.getElem?_append_left (by omega)] at hr hx
    obtain ⟨vf,rfl,ht⟩:=hv i r x hr hx
    exact ⟨hf 0 (by decide),hf 1 (by decide),hf 2 (by decide),hf 3 (by decide),hf 4 (by decide),vf,hf 5 (by decide),(ht.below hb).more hN⟩
  · have hi2:i=n:=by
     have:=(List.getElem?_eq_some_iff.1 hr).1
     simp only [List.length_append,List.length_cons,List.length_nil] at this
     omega
    subst hi2
    rw [List.getElem?_append_right (by omega),hrs,Nat.sub_self] at hr
    rw [List.getElem?_append_right (by omega),hl,Nat.sub_self] at hx
    obtain rfl:=Option.some.inj hr
    obtain rfl:=Option.some.inj hx
    exact ⟨hf 0 (by decide),hf 1 (by decide),hf 2 (by decide),hf 3 (by decide),hf 4 (by decide),_,hf 5 (by decide),Rows.nil _ _ _ _⟩)
 have h2:=Rows.take h1 (k:=n) (by simp [hl])
 rw [←hl,List.take_left' rfl] at h2
 rw [←hl]
 exact h2
theorem own_texts1 {W:World} {base n k:Nat} {A:Option Addr} {L:List ByteArray} {s:ByteArray} (h:Own W base 9 1 (.slice A (n+1) k) ((L.map fun s=>[Value.string s])++[[Value.string s]])) (hl:L.length=n):TextsV W W.heap.size (.slice A n k) L:=by
 have h1:TextsV W W.heap.size (.slice A (n+1) k) (L++[s]):=Own.rows h (Nat.le_refl _) (by simp) (fun i r x f hr hx hf=>by
  have e:(L.map fun s=>[Value.string s])++[[Value.string s]]=(L++[s]).map fun s=>[Value.string s]:=by simp
  rw [e,List.getElem?_map,hx] at hr
  obtain rfl:[Value.string x]=r:=by simpa using hr
  exact hf 0 (by decide))
 have h2:=Rows.take h1 (k:=n) (by simp [hl])
 rw [←hl,List.take_left' rfl] at h2
 rw [←hl]
 exact h2
structure KP (b:Nat) (w0:World) (G:Nat) (MB:Array Value) (vC vR:Value) (nC:Nat) (F:Nat→Value) (rR:List (List Value)) (W:World):Prop where
 low:Below b w0 W
 box:Whole W G 28 MB
 hC:∃rs,rs.length=nC∧Own W b 31 6 vC rs∧∀(i:Nat) (r:List Value),rs[i]? = some r→r[5]? = some (F i)
 hF:∀i,i<nC→∃fs,Own W b 9 1 (F i) fs
 hR:Own W b 9 1 vR rR
 ap:∀i,i<nC→vR.ownBlock=none∨vR.ownBlock≠(F i).ownBlock
 ap2:∀i k,i<nC→k<nC→i≠k→(F i).ownBlock=none∨(F i).ownBlock≠(F k).ownBlock
theorem own_ne {u:Option Nat} {g:Nat} {v:Option Nat} (h:u=none∨u≠v) (hv:v=some g):u≠some g:=fun e=>by
 rcases h with h | h
 · rw [h] at e;cases e
 · exact h (e.trans hv.symm)
theorem KP.setC {b:Nat} {w0:World} {G:Nat} {MB:Array Value} {vC vR:Value} {nC:Nat} {F:Nat→Value} {rR:List (List Value)} {W:World} (h:KP b w0 G MB vC vR nC F rR W) {g i j:Nat} (hg:vC.ownBlock=some g) (hi:i<nC) (hj:j<5) (u:Value):KP b w0 G MB vC vR nC F rR (W.setCell ⟨g,i * 6+j,none⟩ u):=by
 obtain ⟨rs,h1,h2,h3⟩:=h.hC
 have hr:=List.getElem?_eq_getElem (l:=rs) (i:=i) (by omega)
 have hb:=(Own.lt h2 hg).1
 refine ⟨h.low.setCell (p:=⟨g,i * 6+j,none⟩) hb _,h.box.far (p:=⟨g,i * 6+j,none⟩) (fun e=>h2.apart h.box (by decide) (by rw [hg,e])) _,⟨_,?_,h2.put hg hr (by omega) u,?_⟩,?_,?_,h.ap,h.ap2⟩
 · rw [List.length_set];exact h1
 · intro k r hk
   rw [List.getElem?_set] at hk
   by_cases hik:i=k
   · subst hik
     rw [if_pos rfl,if_pos (by omega)] at hk
     injection hk with hk
     subst hk
     rw [List.getElem?_set_ne (by omega)]
     exact h3 i _ hr
   · rw [if_neg hik] at hk
     exact h3 k r hk
 · intro k hk
   obtain ⟨fs,hf⟩:=h.hF k hk
   exact ⟨fs,hf.far (p:=⟨g,i * 6+j,none⟩) (own_ne (hf.apart2 h2 (by decide)) hg) _⟩
 · exact h.hR.far (p:=⟨g,i * 6+j,none⟩) (own_ne (h.hR.apart2 h2 (by decide)) hg) _
theorem KP.setF {b:Nat} {w0:World} {G:Nat} {MB:Array Value} {vC vR:Value} {nC:Nat} {F:Nat→Value} {rR:List (List Value)} {W:World} (h:KP b w0 G MB vC vR nC F rR W) {g i j:Nat} (hi:i<nC) (hg:(F i).ownBlock=some g) {A:Option Addr} {l c:Nat} (hv:F i=.slice A l c) (hj:j<l) (u:Value):KP b w0 G MB vC vR nC F rR (W.setCell ⟨g,j,none⟩ u):=by
 obtain ⟨fs,hf⟩:=h.hF i hi
 obtain ⟨A',c',e,-⟩:=hf.form
 rw [hv] at e
 injection e with e1 e2 e3
 have hr:=List.getElem?_eq_getElem (l:=fs) (i:=j) (by omega)
 have hb:=(Own.lt hf hg).1
 obtain ⟨rs,h1,h2,h3⟩:=h.hC
 refine ⟨h.low.setCell (p:=⟨g,j,none⟩) hb _,h.box.far (p:=⟨g,j,none⟩) (fun e=>hf.apart h.box (by decide) (by rw [hg,e])) _,⟨rs,h1,h2.far (p:=⟨g,j,none⟩) (own_ne (h2.apart2 hf (by decide)) hg) _,h3⟩,?_,h.hR.far (p:=⟨g,j,none⟩) (own_ne (h.ap i hi) hg) _,h.ap,h.ap2⟩
 intro k hk
 by_cases hik:k=i
 · subst hik
   have:=hf.put hg hr (j:=0) (by decide) u
   rw [Nat.mul_one,Nat.add_zero] at this
   exact ⟨_,this⟩
 · obtain ⟨fk,hfk⟩:=h.hF k hk
   exact ⟨fk,hfk.far (p:=⟨g,j,none⟩) (own_ne (h.ap2 k i hk hi hik) hg) _⟩
theorem KP.at_ {b:Nat} {w0:World} {G:Nat} {MB:Array Value} {A:Option Addr} {l c:Nat} {vR:Value} {nC:Nat} {F:Nat→Value} {rR:List (List Value)} {W:World} (h:KP b w0 G MB (.slice A l c) vR nC F rR W) {i:Nat} (hi:i<nC) :
 ∃g u,A=some ⟨g,0,none⟩∧nC=l∧nC≤c∧W.cell? ⟨g,i * 6,none⟩=some u∧W.cell? ⟨g,i * 6+5,none⟩=some (F i)∧(∀j,W.frozen? ⟨g,j,none⟩=false)∧(Value.slice A l c).ownBlock=some g:=by
 obtain ⟨rs,h1,h2,h3⟩:=h.hC
 have hr:=List.getElem?_eq_getElem (l:=rs) (i:=i) (by omega)
 obtain ⟨g,c',e,h4,h5,h6,h7,h8,hat,hfz⟩:=h2.at_ hr
 injection e with e1 e2 e3
 have hl:=h2.2 _ (List.mem_of_getElem? hr)
 have h50:=hat 5 (by decide)
 rw [h3 i _ hr] at h50
 have h00:=hat 0 (by decide)
 rw [List.getElem?_eq_getElem (by omega)] at h00
 exact ⟨g,_,e1,by omega,by omega,h00,h50,hfz,h4⟩
theorem KP.fat {b:Nat} {w0:World} {G:Nat} {MB:Array Value} {vC:Value} {A:Option Addr} {l c:Nat} {vR:Value} {nC:Nat} {F:Nat→Value} {rR:List (List Value)} {W:World} (h:KP b w0 G MB vC vR nC F rR W) {i j:Nat} (hi:i<nC) (hv:F i=.slice A l c) (hj:j<l) :
 ∃g u,A=some ⟨g,0,none⟩∧W.cell? ⟨g,j,none⟩=some u∧(∀j,W.frozen? ⟨g,j,none⟩=false)∧(F i).ownBlock=some g:=by
 obtain ⟨fs,hf⟩:=h.hF i hi
 obtain ⟨A',c',e,-⟩:=hf.form
 rw [hv] at e
 injection e with e1 e2 e3
 have hr:=List.getElem?_eq_getElem (l:=fs) (i:=j) (by omega)
 obtain ⟨g,c'',e',h4,h5,h6,h7,h8,hat,hfz⟩:=hf.at_ hr
 rw [hv] at e'
 injection e' with e4 e5 e6
 have hl:=hf.2 _ (List.mem_of_getElem? hr)
 have h00:=hat 0 (by decide)
 rw [List.getElem?_eq_getElem (by omega),Nat.mul_one,Nat.add_zero] at h00
 exact ⟨g,_,e4,h00,hfz,h4⟩
theorem KP.of {b bm:Nat} {w0 W:World} {m:MediaS} {cs:List (CodecS×Value)} {vC vE vR vS vY:Value} {G:Nat} {MB:Array Value} (h:MW b bm 64 W m cs vC vE vR vS vY) (hb:Below b w0 W) (hG:b≤W.heap.size) (hg:G=W.heap.size):KP b w0 G MB vC vR cs.length (fun i=>(cs.map (fun c:CodecS×Value=>c.2)).getD i (Value.bool false)) (m.rids.map tcell) (W.alloc (.cells MB 28)):=by
 subst hg
 have hget:∀i,i<cs.length→∃c∈cs,(cs.map (fun c:CodecS×Value=>c.2)).getD i (Value.bool false)=c.2:=fun i hi=>⟨cs[i],List.getElem_mem _,by simp [List.getD_eq_getElem?_getD,hi]⟩
 have hp:=h.ap
 rw [List.pairwise_cons] at hp
 refine ⟨hb.alloc hG _,Whole.new _ _ _,⟨_,by rw [List.length_map],h.hC.alloc _,?_⟩,?_,h.hR.alloc _,?_,?_⟩
 · intro i r hr
   rw [List.getElem?_map] at hr
   obtain ⟨c,hc,rfl⟩:=Option.map_eq_some_iff.1 hr
   show some c.2=_
   simp [List.getD_eq_getElem?_getD,hc]
 · intro i hi
   obtain ⟨c,hc,e⟩:=hget i hi
   show ∃fs,Own _ b 9 1 ((cs.map (fun c:CodecS×Value=>c.2)).getD i (Value.bool false)) fs
   rw [e]
   exact ⟨_,(h.hF c hc).alloc _⟩
 · intro i hi
   obtain ⟨c,hc,e⟩:=hget i hi
   show _∨_≠((cs.map (fun c:CodecS×Value=>c.2)).getD i (Value.bool false)).ownBlock
   rw [e]
   exact hp.1 c.2 (List.mem_map_of_mem hc)
 · intro i k hi hk hik
   have hh:=hp.2
   rw [List.pairwise_iff_getElem] at hh
   have hli:i<(cs.map (fun c:CodecS×Value=>c.2)).length:=by rw [List.length_map];exact hi
   have hlk:k<(cs.map (fun c:CodecS×Value=>c.2)).length:=by rw [List.length_map];exact hk
   show ((cs.map (fun c:CodecS×Value=>c.2)).getD i (Value.bool false)).ownBlock=none∨((cs.map (fun c:CodecS×Value=>c.2)).getD i (Value.bool false)).ownBlock≠((cs.map (fun c:CodecS×Value=>c.2)).getD k (Value.bool false)).ownBlock
   rw [List.getD_eq_getElem?_getD,List.getD_eq_getElem?_getD,List.getElem?_eq_getElem hli,List.getElem?_eq_getElem hlk,Option.getD_some,Option.getD_some]
   rcases Nat.lt_or_gt_of_ne hik with hlt | hlt
   · exact hh i k hli hlk hlt
   · by_cases e0:((cs.map (fun c:CodecS×Value=>c.2))[i]).ownBlock=none
     · exact .inl e0
     · rcases hh k i hlk hli hlt with e | e
       · exact .inr (by rw [e];exact e0)
       · exact .inr (Ne.symm e)
structure KQ (b:Nat) (w0:World) (G:Nat) (MB:Array Value) (vR:Value) (rR:List (List Value)) (W:World):Prop where
 low:Below b w0 W
 box:Whole W G 28 MB
 hR:Own W b 9 1 vR rR
theorem KP.q {b:Nat} {w0:World} {G:Nat} {MB:Array Value} {vC vR:Value} {nC:Nat} {F:Nat→Value} {rR:List (List Value)} {W:World} (h:KP b w0 G MB vC vR nC F rR W):KQ b w0 G MB vR rR W:=⟨h.low,h.box,h.hR⟩
theorem KQ.box2 {b:Nat} {w0:World} {G:Nat} {MB:Array Value} {vR:Value} {rR:List (List Value)} {W W':World} {o:Obj} (h:KQ b w0 G MB vR rR W) (hg:(W.alloc o).grownBy W' vR.ownBlock):Whole W' G 28 MB :=
 (h.box.alloc o).grown hg (fun e=>((h.hR.alloc o).apart (h.box.alloc o) (by decide)) e.symm)
theorem KQ.app {b:Nat} {w0:World} {G:Nat} {MB:Array Value} {vR v':Value} {rR rR':List (List Value)} {W W':World} {o:Obj} (h:KQ b w0 G MB vR rR W) (hg:(W.alloc o).grownBy W' vR.ownBlock) (ho:Own W' b 9 1 v' rR') (hb:b≤W.heap.size) (hG:b≤G):KQ b w0 G (MB.setIfInBounds 6 v') v' rR' (W'.setCell ⟨G,6,none⟩ v') :=
 ⟨((h.low.alloc hb o).grown hg (by rw [World.size_alloc];omega) (fun j hj=>(Own.lt h.hR hj).1)).setCell (p:=⟨G,6,none⟩) hG _,(h.box2 hg).set 6 v',ho.far (p:=⟨G,6,none⟩) (ho.apart (h.box2 hg) (by decide)) _⟩
theorem own_emptyK {b:Nat} (W0:World) (t:TypeId) (sz:Nat) (hb:b≤W0.heap.size):Own (W0.alloc (.cells #[] t)) b t sz (.slice (some ⟨W0.heap.size,0,none⟩) 0 0) [] :=
 ⟨⟨by simp,.inr ⟨W0.heap.size,0,#[],rfl,hb,Whole.new W0 t #[],Nat.le_refl _,by unfold maxLen;omega,by simp,by simp⟩⟩,fun r hr=>by cases hr⟩
set_option maxHeartbeats 12800000 in
set_option maxRecDepth 100000 in
theorem keeps_walk (M:Array Value) (m:MediaS) (vC vE vR vS vY:Value) (w:World) (h:MediaV w w.heap.size M m vC vE vR vS vY) (hz:SizM m) (hE:EnvR w) (h7:7≤w.heap.size) :
 Calls Tryz.prog 3 #[.agg M] w fun e w'=>e=.returned (.bool true)∧Below w.heap.size w w':=by
 obtain rfl:M=mcell m vC vE vR vS vY:=h.form
 obtain ⟨AC,kC,rfl,hcC,hmC,hAC⟩:=Rows.form h.codecs
 obtain ⟨AR,kR,rfl,hcR,hmR,hAR⟩:=Rows.form h.rids
 obtain ⟨AE,lE,kE,rfl⟩:∃A l k,vE=.slice A l k:=by obtain ⟨A,k,h,-⟩:=Rows.form h.exts;exact ⟨_,_,_,h⟩
 obtain ⟨AS,lS,kS,rfl⟩:∃A l k,vS=.slice A l k:=by obtain ⟨A,k,h,-⟩:=Rows.form h.sources;exact ⟨_,_,_,h⟩
 obtain ⟨AY,lY,kY,rfl⟩:∃A l k,vY=.slice A l k:=by obtain ⟨A,k,h,-⟩:=Rows.form h.crypto;exact ⟨_,_,_,h⟩
 have hcnt:m.codecs.length≤1759218604390∧m.rids.length≤8796093021952:=⟨hz.counts.1,hz.counts.2.2.1⟩
 obtain ⟨lC,hlC⟩:∃n,m.codecs.length=n:=⟨_,rfl⟩
 obtain ⟨lR,hlR⟩:∃n,m.rids.length=n:=⟨_,rfl⟩
 rw [hlC] at h hcC hcnt ⊢
 rw [hlR] at h hcR hcnt ⊢
 have HLN:=Lib.hid (And.intro hlC hlR)
 have hb0:Below w.heap.size w (w.alloc (.cells (mcell m (.slice AC lC kC) (.slice AE lE kE) (.slice AR lR kR) (.slice AS lS kS) (.slice AY lY kY)) 28)):=(Below.refl _ w).alloc (Nat.le_refl _) _
 have H0:=Lib.hid (And.intro hb0 (Whole.new w 28 (mcell m (.slice AC lC kC) (.slice AE lE kE) (.slice AR lR kR) (.slice AS lS kS) (.slice AY lY kY))))
 have HMV:=Lib.hid h
 have HZ:=Lib.hid hz
 have HAC:=Lib.hid hAC
 have HAR:=Lib.hid hAR
 have HE:=Lib.hid (And.intro hE h7)
 have HAW:Hid (∀W,Below w.heap.size w W→Calls Tryz.prog 7 #[] W fun e w'=>e=.returned (.bool true)∧Below W.heap.size W w'):=Lib.hid fun W hW=>awake_any W (hE.under hW).env (Nat.le_trans h7 hW.size)
 have HKB:Hid (∀W W',Below w.heap.size w W→Below W.heap.size W W'→Below w.heap.size w W'):=Lib.hid fun W W' h1 h2=>h1.trans (h2.mono h1.size)
 obtain ⟨N,hN⟩:∃N,w.heap.size=N:=⟨_,rfl⟩
 have HN:=Lib.hid hN
 rw [hN] at H0 HAW HKB HMV
 clear h hz hE h7 hb0 hAC hAR hlC hlR hN
 unfold mcell at H0 HMV ⊢
 go_enter Tryz.func3,Tryz.ntmps3
 go_upto_region 1 with fail
 simp only [HN.out]
 generalize w.alloc (.cells #[.int .i64 m.kind,.int .i64 m.port,.string m.mid,.int .i64 m.dir,.slice AC lC kC,.slice AE lE kE,.slice AR lR kR,.bool m.sending,.slice AS lS kS,.slice AY lY kY,.int .i64 m.sctp] 28)=w0 at *
 go_upto_region 3 with (go_at_call 7;go_loud ((with_reducible refine (HAW.out _ H0.out.1).mono ?_);rintro e w1 ⟨rfl,hb1⟩;have H1:Hid (Below N w w1∧Whole w1 N 28 #[.int .i64 m.kind,.int .i64 m.port,.string m.mid,.int .i64 m.dir,.slice AC lC kC,.slice AE lE kE,.slice AR lR kR,.bool m.sending,.slice AS lS kS,.slice AY lY kY,.int .i64 m.sctp]):=Lib.hid ⟨HKB.out _ _ H0.out.1 hb1,H0.out.2.under hb1⟩;clear hb1;dsimp only))
 go_upto_region 4 with (first | ((with_reducible refine wpList_load_all ?_ 28 (.tmp 1) ?_ H1.out.2 ?_ Tryz.sizeMedia ?_ Tryz.underlying28 ?_ ?_);(with_reducible rfl);(with_reducible rfl);rfl;rfl;rfl) | ((with_reducible refine wpList_storeS #[.int .i64 m.kind,.int .i64 m.port,.string m.mid,.int .i64 m.dir,.slice AC lC kC,.slice AE lE kE,.slice AR lR kR,.bool m.sending,.slice AS lS kS,.slice AY lY kY,.int .i64 m.sctp] ?_ 28 (.tmp 3) (.tmp 15) ?_ ?_ ?_ (Whole.new _ _ _) Tryz.sizeMedia ?_ ?_ ?_ ?_);(with_reducible rfl);(with_reducible rfl);rfl;rfl;rfl;rfl;rfl))
 have H3:Hid (Below N w ((w1.alloc (.cells #[.int .i64 0,.int .i64 0,.string ⟨#[]⟩,.int .i64 0,.slice none 0 0,.slice none 0 0,.slice none 0 0,.bool false,.slice none 0 0,.slice none 0 0,.int .i64 0] 28)).setRow w1.heap.size #[.int .i64 m.kind,.int .i64 m.port,.string m.mid,.int .i64 m.dir,.slice AC lC kC,.slice AE lE kE,.slice AR lR kR,.bool m.sending,.slice AS lS kS,.slice AY lY kY,.int .i64 m.sctp])∧Whole ((w1.alloc (.cells #[.int .i64 0,.int .i64 0,.string ⟨#[]⟩,.int .i64 0,.slice none 0 0,.slice none 0 0,.slice none 0 0,.bool false,.slice none 0 0,.slice none 0 0,.int .i64 0] 28)).setRow w1.heap.size #[.int .i64 m.kind,.int .i64 m.port,.string m.mid,.int .i64 m.dir,.slice AC lC kC,.slice AE lE kE,.slice AR lR kR,.bool m.sending,.slice AS lS kS,.slice AY lY kY,.int .i64 m.sctp]) N 28 #[.int .i64 m.kind,.int .i64 m.port,.string m.mid,.int .i64 m.dir,.slice AC lC kC,.slice AE lE kE,.slice AR lR kR,.bool m.sending,.slice AS lS kS,.slice AY lY kY,.int .i64 m.sctp]∧Whole ((w1.alloc (.cells #[.int .i64 0,.int .i64 0,.string ⟨#[]⟩,.int .i64 0,.slice none 0 0,.slice none 0 0,.slice none 0 0,.bool false,.slice none 0 0,.slice none 0 0,.int .i64 0] 28)).setRow w1.heap.size #[.int .i64 m.kind,.int .i64 m.port,.string m.mid,.int .i64 m.dir,.slice AC lC kC,.slice AE lE kE,.slice AR lR kR,.bool m.sending,.slice AS lS kS,.slice AY lY kY,.int .i64 m.sctp]) w1.heap.size 28 #[.int .i64 m.kind,.int .i64 m.port,.string m.mid,.int .i64 m.dir,.slice AC lC kC,.slice AE lE kE,.slice AR lR kR,.bool m.sending,.slice AS lS kS,.slice AY lY kY,.int .i64 m.sctp]∧N<w1.heap.size):=Lib.hid (by
  have l1:=H1.out.2.lt
  refine ⟨below_row (H1.out.1.alloc (by omega) _) (by omega) _,(H1.out.2.alloc _).farRow (by omega) _,(Whole.new _ _ _).row _,l1⟩)
 generalize ((w1.alloc (.cells #[.int .i64 0,.int .i64 0,.string ⟨#[]⟩,.int .i64 0,.slice none 0 0,.slice none 0 0,.slice none 0 0,.bool false,.slice none 0 0,.slice none 0 0,.int .i64 0] 28)).setRow w1.heap.size #[.int .i64 m.kind,.int .i64 m.port,.string m.mid,.int .i64 m.dir,.slice AC lC kC,.slice AE lE kE,.slice AR lR kR,.bool m.sending,.slice AS lS kS,.slice AY lY kY,.int .i64 m.sctp])=w3 at *
 generalize w1.heap.size=gX at *
 obtain ⟨rs,hrl,hr6,hr1,hrv,hrc⟩:=CodecsV.rows6 HMV.out.codecs HLN.out.1
 have HRS:=Lib.hid (And.intro hrl (And.intro hr6 (And.intro hr1 hrv)))
 have HRC:Hid (∀W,Below N w W→∀ad,AC=some ad→∀(i:Nat) (r:List Value),rs[i]? = some r→∀j,j<6→W.cell? (ad.add (i * 6+j))=r[j]?):=Lib.hid fun W hW ad ha i r hi j hj=>by
  have hil:i<m.codecs.length:=by
   have:=(List.getElem?_eq_some_iff.1 hi).1
   rw [HLN.out.1]
   omega
  obtain ⟨ad',_,e1,had,-,-,-⟩:=Rows.at_ HMV.out.codecs (List.getElem?_eq_getElem hil)
  injection e1 with e1 _ _
  rw [ha] at e1
  obtain rfl:=Option.some.inj e1
  exact (hW.cell (p:=ad.add (i * 6+j)) (by rw [add_block];exact had)).trans (hrc ad ha i r hi j hj)
 have p4:(w3.alloc (.cells #[] 31)).cell? ⟨N,4,none⟩=some (.slice AC lC kC):=(H3.out.2.1.alloc _).cell 4
 have HE9:=Lib.hid (own_emptyK w3 31 6 (Nat.le_refl _))
 have HNA:Hid (w3.heap.size≤(w3.alloc (.cells #[] 31)).heap.size∧N≤w3.heap.size):=Lib.hid (by rw [World.size_alloc];have:=H3.out.2.1.lt;omega)
 have HRA:Hid (∀ad',AC=some ad'→∀(i:Nat) (r:List Value),rs[i]? = some r→∀j,j<6→(w3.alloc (.cells #[] 31)).cell? (ad'.add (i * 6+j))=r[j]?):=Lib.hid (HRC.out _ (H3.out.1.alloc HNA.out.2 _))
 clear hrl hr6 hr1 hrv hrc
 go_upto_region 5 with (at_builtin;go_loud (first | (refine wpList_appendRows (ks:=[]) (rs:=rs) (base:=w3.heap.size) rfl (.tmp 16) (.tmp 18) rfl Tryz.underlying22 Tryz.infoCodec rfl (Nat.zero_lt_succ _) rfl HE9.out rfl HAC.out hcC HRS.out.1 HRS.out.2.1 HRS.out.2.2.1 HRA.out (by simp only [List.length_nil];omega) (by simp only [List.length_nil];omega) HNA.out.1 ?_;intro v4 w4 ho4 hg4 hn4;rw [List.nil_append] at ho4;have hb4:Below w3.heap.size w3 w4:=((Below.refl _ w3).alloc (Nat.le_refl _) _).grown hg4 HNA.out.1 (fun j hj=>(Own.lt HE9.out hj).1);have H4:Hid (Below w3.heap.size w3 w4∧Own w4 w3.heap.size 31 6 v4 rs∧w3.heap.size≤w4.heap.size):=Lib.hid ⟨hb4,ho4,hb4.size⟩;have H4B:Hid (Below w3.heap.size w3 (w4.alloc (.cells #[Value.int .i64 77,Value.string ⟨#[]⟩,Value.int .i64 0,Value.int .i64 0,Value.string ⟨#[]⟩,Value.slice none 0 0] 31))∧w3.heap.size≤(w4.alloc (.cells #[Value.int .i64 77,Value.string ⟨#[]⟩,Value.int .i64 0,Value.int .i64 0,Value.string ⟨#[]⟩,Value.slice none 0 0] 31)).heap.size):=Lib.hid ⟨hb4.alloc hb4.size _,by rw [World.size_alloc];have:=hb4.size;omega⟩;clear ho4 hg4 hn4 hb4 HE9 HRA) | (refine wpList_appendE (base:=w3.heap.size) (rs:=rs) (r:=[Value.int .i64 77,Value.string ⟨#[]⟩,Value.int .i64 0,Value.int .i64 0,Value.string ⟨#[]⟩,Value.slice none 0 0]) rfl (.tmp 19) (.tmp 21) rfl Tryz.underlying22 Tryz.infoCodec rfl (Nat.zero_lt_succ _) rfl (H4.out.2.1.alloc (.cells #[Value.int .i64 77,Value.string ⟨#[]⟩,Value.int .i64 0,Value.int .i64 0,Value.string ⟨#[]⟩,Value.slice none 0 0] 31)) rfl (Whole.new w4 31 #[Value.int .i64 77,Value.string ⟨#[]⟩,Value.int .i64 0,Value.int .i64 0,Value.string ⟨#[]⟩,Value.slice none 0 0]) rfl (fun u hu=>by simp at hu;rcases hu with rfl | rfl | rfl | rfl | rfl | rfl <;> rfl) (by rw [HRS.out.1];omega) (by rw [HRS.out.1];omega) H4B.out.2 ?_;intro v5 w5 ho5 hg5 hn5;have hb5:Below w3.heap.size w3 w5:=H4B.out.1.grown hg5 H4B.out.2 (fun j hj=>(Own.lt H4.out.2.1 hj).1);obtain ⟨AX,kX,hv5,-⟩:=Own.form ho5;rw [List.length_append,HRS.out.1] at hv5;change v5=.slice AX (lC+1) kX at hv5;subst hv5;have H5:Hid (Below w3.heap.size w3 w5∧Own w5 w3.heap.size 31 6 (.slice AX (lC+1) kX) (rs++[[Value.int .i64 77,Value.string ⟨#[]⟩,Value.int .i64 0,Value.int .i64 0,Value.string ⟨#[]⟩,Value.slice none 0 0]])):=Lib.hid ⟨hb5,ho5⟩;have x5:w5.cell? ⟨gX,4,none⟩=some (.slice AC lC kC):=(H3.out.2.2.1.under hb5).cell 4;have y5:=(H3.out.2.2.1.under hb5).frz 4;clear ho5 hg5 hn5 hb5 H4B H4)))
 have HL:Hid (gX<w3.heap.size∧N<gX):=Lib.hid ⟨H3.out.2.2.1.lt,H3.out.2.2.2⟩
 have H6:Hid (Below N w (w5.setCell ⟨gX,4,none⟩ (.slice AX (lC+1) kX))∧Whole (w5.setCell ⟨gX,4,none⟩ (.slice AX (lC+1) kX)) N 28 #[.int .i64 m.kind,.int .i64 m.port,.string m.mid,.int .i64 m.dir,.slice AC lC kC,.slice AE lE kE,.slice AR lR kR,.bool m.sending,.slice AS lS kS,.slice AY lY kY,.int .i64 m.sctp]∧Whole (w5.setCell ⟨gX,4,none⟩ (.slice AX (lC+1) kX)) gX 28 #[.int .i64 m.kind,.int .i64 m.port,.string m.mid,.int .i64 m.dir,.slice AX (lC+1) kX,.slice AE lE kE,.slice AR lR kR,.bool m.sending,.slice AS lS kS,.slice AY lY kY,.int .i64 m.sctp]∧Own (w5.setCell ⟨gX,4,none⟩ (.slice AX (lC+1) kX)) w3.heap.size 31 6 (.slice AX (lC+1) kX) (rs++[[Value.int .i64 77,Value.string ⟨#[]⟩,Value.int .i64 0,Value.int .i64 0,Value.string ⟨#[]⟩,Value.slice none 0 0]])):=Lib.hid (by
  have hl:=HL.out
  have h1:=H3.out.2.2.1.under H5.out.1
  exact ⟨(H3.out.1.trans (H5.out.1.mono HNA.out.2)).setCell (p:=⟨gX,4,none⟩) (by show N≤gX;omega) _,(H3.out.2.1.under H5.out.1).far (p:=⟨gX,4,none⟩) (by show N≠gX;omega) _,h1.set 4 _,H5.out.2.far (p:=⟨gX,4,none⟩) (H5.out.2.apart h1 (by decide)) _⟩)
 clear x5 y5 p4 H5 H3 HNA
 generalize w5.setCell ⟨gX,4,none⟩ (.slice AX (lC+1) kX)=w6 at *
 generalize w3.heap.size=b4 at *
 obtain ⟨rR,hrR⟩:∃l:List (List Value),(m.rids.map fun s=>[Value.string s])=l:=⟨_,rfl⟩
 have HRR:=Lib.hid hrR
 obtain ⟨hql,hq1,hqo,hqc⟩:=TextsV.rows1 HMV.out.rids HLN.out.2
 rw [hrR] at hql hq1 hqo hqc
 have HRT:=Lib.hid (And.intro hql (And.intro hq1 hqo))
 have p6:(w6.alloc (.cells #[] 9)).cell? ⟨N,6,none⟩=some (.slice AR lR kR):=(H6.out.2.1.alloc _).cell 6
 have HE8:=Lib.hid (own_emptyK w6 9 1 (Nat.le_refl _))
 have HNB:Hid (w6.heap.size≤(w6.alloc (.cells #[] 9)).heap.size∧N≤w6.heap.size):=Lib.hid (by rw [World.size_alloc];have:=H6.out.2.1.lt;omega)
 have HRB:Hid (∀ad',AR=some ad'→∀(i:Nat) (r:List Value),rR[i]? = some r→∀j,j<1→(w6.alloc (.cells #[] 9)).cell? (ad'.add (i * 1+j))=r[j]?):=Lib.hid fun ad ha i r hi j hj=>by
  have hil:i<m.rids.length:=by
   have:=(List.getElem?_eq_some_iff.1 hi).1
   rw [HLN.out.2]
   omega
  obtain ⟨ad',_,e1,had,-⟩:=TextsV.at_ HMV.out.rids hil
  injection e1 with e1 _ _
  rw [ha] at e1
  obtain rfl:=Option.some.inj e1
  exact ((H6.out.1.alloc HNB.out.2 _).cell (p:=ad.add (i * 1+j)) (by rw [add_block];exact had)).trans (hqc ad ha i r hi j hj)
 clear hrR hql hq1 hqo hqc
 go_upto_region 6 with (at_builtin;go_loud (first | (refine wpList_appendRows (ks:=[]) (rs:=rR) (base:=w6.heap.size) rfl (.tmp 24) (.tmp 26) rfl Tryz.underlying24 Tryz.infoStr rfl (Nat.zero_lt_succ _) rfl HE8.out rfl HAR.out hcR HRT.out.1 HRT.out.2.1 HRT.out.2.2 HRB.out (by simp only [List.length_nil];omega) (by simp only [List.length_nil];omega) HNB.out.1 ?_;intro v7 w7 ho7 hg7 hn7;rw [List.nil_append] at ho7;have hb7:Below w6.heap.size w6 w7:=((Below.refl _ w6).alloc (Nat.le_refl _) _).grown hg7 HNB.out.1 (fun j hj=>(Own.lt HE8.out hj).1);have H7:Hid (Below w6.heap.size w6 w7∧Own w7 w6.heap.size 9 1 v7 rR∧w6.heap.size≤w7.heap.size):=Lib.hid ⟨hb7,ho7,hb7.size⟩;have H7B:Hid (Below w6.heap.size w6 (w7.alloc (.cells #[Value.string ⟨#[115,112,97,114,101]⟩] 9))∧w6.heap.size≤(w7.alloc (.cells #[Value.string ⟨#[115,112,97,114,101]⟩] 9)).heap.size):=Lib.hid ⟨hb7.alloc hb7.size _,by rw [World.size_alloc];have:=hb7.size;omega⟩;clear ho7 hg7 hn7 hb7 HE8 HRB) | (refine wpList_appendE (base:=w6.heap.size) (rs:=rR) (r:=[Value.string ⟨#[115,112,97,114,101]⟩]) rfl (.tmp 27) (.tmp 28) rfl Tryz.underlying24 Tryz.infoStr rfl (Nat.zero_lt_succ _) rfl (H7.out.2.1.alloc (.cells #[Value.string ⟨#[115,112,97,114,101]⟩] 9)) rfl (Whole.new w7 9 #[Value.string ⟨#[115,112,97,114,101]⟩]) rfl (fun u hu=>by simp at hu;subst hu;rfl) (by rw [HRT.out.1];omega) (by rw [HRT.out.1];omega) H7B.out.2 ?_;intro v8 w8 ho8 hg8 hn8;have hb8:Below w6.heap.size w6 w8:=H7B.out.1.grown hg8 H7B.out.2 (fun j hj=>(Own.lt H7.out.2.1 hj).1);obtain ⟨AZ,kZ,hv8,-⟩:=Own.form ho8;rw [List.length_append,HRT.out.1] at hv8;change v8=.slice AZ (lR+1) kZ at hv8;subst hv8;have H8:Hid (Below w6.heap.size w6 w8∧Own w8 w6.heap.size 9 1 (.slice AZ (lR+1) kZ) (rR++[[Value.string ⟨#[115,112,97,114,101]⟩]])):=Lib.hid ⟨hb8,ho8⟩;have x8:w8.cell? ⟨gX,6,none⟩=some (.slice AR lR kR):=(H6.out.2.2.1.under hb8).cell 6;have y8:=(H6.out.2.2.1.under hb8).frz 6;clear ho8 hg8 hn8 hb8 H7B H7)))
 have HL2:Hid (gX<w6.heap.size∧N<gX∧b4≤w6.heap.size):=Lib.hid ⟨H6.out.2.2.1.lt,HL.out.2,by obtain ⟨g,_,_,hg,h1,h2,_⟩:=H6.out.2.2.2.at_ (i:=lC) (r:=[Value.int .i64 77,Value.string ⟨#[]⟩,Value.int .i64 0,Value.int .i64 0,Value.string ⟨#[]⟩,Value.slice none 0 0]) (by rw [List.getElem?_append_right (by rw [HRS.out.1];exact Nat.le_refl _),HRS.out.1,Nat.sub_self];rfl);omega⟩
 have H9:Hid (Below N w (w8.setCell ⟨gX,6,none⟩ (.slice AZ (lR+1) kZ))∧Whole (w8.setCell ⟨gX,6,none⟩ (.slice AZ (lR+1) kZ)) N 28 #[.int .i64 m.kind,.int .i64 m.port,.string m.mid,.int .i64 m.dir,.slice AC lC kC,.slice AE lE kE,.slice AR lR kR,.bool m.sending,.slice AS lS kS,.slice AY lY kY,.int .i64 m.sctp]∧Whole (w8.setCell ⟨gX,6,none⟩ (.slice AZ (lR+1) kZ)) gX 28 #[.int .i64 m.kind,.int .i64 m.port,.string m.mid,.int .i64 m.dir,.slice AX (lC+1) kX,.slice AE lE kE,.slice AZ (lR+1) kZ,.bool m.sending,.slice AS lS kS,.slice AY lY kY,.int .i64 m.sctp]∧Own (w8.setCell ⟨gX,6,none⟩ (.slice AZ (lR+1) kZ)) b4 31 6 (.slice AX (lC+1) kX) (rs++[[Value.int .i64 77,Value.string ⟨#[]⟩,Value.int .i64 0,Value.int .i64 0,Value.string ⟨#[]⟩,Value.slice none 0 0]])∧Own (w8.setCell ⟨gX,6,none⟩ (.slice AZ (lR+1) kZ)) w6.heap.size 9 1 (.slice AZ (lR+1) kZ) (rR++[[Value.string ⟨#[115,112,97,114,101]⟩]])):=Lib.hid (by
  have hl:=HL2.out
  have h1:=H6.out.2.2.1.under H8.out.1
  have h2:=H6.out.2.2.2.under H8.out.1
  exact ⟨(H6.out.1.trans (H8.out.1.mono HNB.out.2)).setCell (p:=⟨gX,6,none⟩) (by show N≤gX;omega) _,(H6.out.2.1.under H8.out.1).far (p:=⟨gX,6,none⟩) (by show N≠gX;omega) _,h1.set 6 _,h2.far (p:=⟨gX,6,none⟩) (h2.apart h1 (by decide)) _,H8.out.2.far (p:=⟨gX,6,none⟩) (H8.out.2.apart h1 (by decide)) _⟩)
 clear x8 y8 p6 H8 H6 HNB
 generalize w8.setCell ⟨gX,6,none⟩ (.slice AZ (lR+1) kZ)=w9 at *
 generalize w6.heap.size=b6 at *
 go_upto_region 7 with (first | ((with_reducible refine wpList_load_all ?_ 28 (.tmp 3) ?_ H9.out.2.2.1 ?_ Tryz.sizeMedia ?_ Tryz.underlying28 ?_ ?_);(with_reducible rfl);(with_reducible rfl);rfl;rfl;rfl) | ((with_reducible refine wpList_storeS #[.int .i64 m.kind,.int .i64 m.port,.string m.mid,.int .i64 m.dir,.slice AX (lC+1) kX,.slice AE lE kE,.slice AZ (lR+1) kZ,.bool m.sending,.slice AS lS kS,.slice AY lY kY,.int .i64 m.sctp] ?_ 28 (.tmp 4) (.tmp 31) ?_ ?_ ?_ (Whole.new _ _ _) Tryz.sizeMedia ?_ ?_ ?_ ?_);(with_reducible rfl);(with_reducible rfl);rfl;rfl;rfl;rfl;rfl))
 have HGE:Hid (b6≤w9.heap.size∧b4≤b6∧gX<b4∧N<gX):=Lib.hid ⟨by obtain ⟨g,_,_,hg,h1,h2,_⟩:=H9.out.2.2.2.2.at_ (i:=lR) (r:=[Value.string ⟨#[115,112,97,114,101]⟩]) (by rw [List.getElem?_append_right (by rw [HRT.out.1];exact Nat.le_refl _),HRT.out.1,Nat.sub_self];rfl);omega,HL2.out.2.2,HL.out⟩
 have H10:Hid (Below N w ((w9.alloc (.cells #[.int .i64 0,.int .i64 0,.string ⟨#[]⟩,.int .i64 0,.slice none 0 0,.slice none 0 0,.slice none 0 0,.bool false,.slice none 0 0,.slice none 0 0,.int .i64 0] 28)).setRow w9.heap.size #[.int .i64 m.kind,.int .i64 m.port,.string m.mid,.int .i64 m.dir,.slice AX (lC+1) kX,.slice AE lE kE,.slice AZ (lR+1) kZ,.bool m.sending,.slice AS lS kS,.slice AY lY kY,.int .i64 m.sctp])∧Whole ((w9.alloc (.cells #[.int .i64 0,.int .i64 0,.string ⟨#[]⟩,.int .i64 0,.slice none 0 0,.slice none 0 0,.slice none 0 0,.bool false,.slice none 0 0,.slice none 0 0,.int .i64 0] 28)).setRow w9.heap.size #[.int .i64 m.kind,.int .i64 m.port,.string m.mid,.int .i64 m.dir,.slice AX (lC+1) kX,.slice AE lE kE,.slice AZ (lR+1) kZ,.bool m.sending,.slice AS lS kS,.slice AY lY kY,.int .i64 m.sctp]) N 28 #[.int .i64 m.kind,.int .i64 m.port,.string m.mid,.int .i64 m.dir,.slice AC lC kC,.slice AE lE kE,.slice AR lR kR,.bool m.sending,.slice AS lS kS,.slice AY lY kY,.int .i64 m.sctp]∧Whole ((w9.alloc (.cells #[.int .i64 0,.int .i64 0,.string ⟨#[]⟩,.int .i64 0,.slice none 0 0,.slice none 0 0,.slice none 0 0,.bool false,.slice none 0 0,.slice none 0 0,.int .i64 0] 28)).setRow w9.heap.size #[.int .i64 m.kind,.int .i64 m.port,.string m.mid,.int .i64 m.dir,.slice AX (lC+1) kX,.slice AE lE kE,.slice AZ (lR+1) kZ,.bool m.sending,.slice AS lS kS,.slice AY lY kY,.int .i64 m.sctp]) gX 28 #[.int .i64 m.kind,.int .i64 m.port,.string m.mid,.int .i64 m.dir,.slice AX (lC+1) kX,.slice AE lE kE,.slice AZ (lR+1) kZ,.bool m.sending,.slice AS lS kS,.slice AY lY kY,.int .i64 m.sctp]∧Whole ((w9.alloc (.cells #[.int .i64 0,.int .i64 0,.string ⟨#[]⟩,.int .i64 0,.slice none 0 0,.slice none 0 0,.slice none 0 0,.bool false,.slice none 0 0,.slice none 0 0,.int .i64 0] 28)).setRow w9.heap.size #[.int .i64 m.kind,.int .i64 m.port,.string m.mid,.int .i64 m.dir,.slice AX (lC+1) kX,.slice AE lE kE,.slice AZ (lR+1) kZ,.bool m.sending,.slice AS lS kS,.slice AY lY kY,.int .i64 m.sctp]) w9.heap.size 28 #[.int .i64 m.kind,.int .i64 m.port,.string m.mid,.int .i64 m.dir,.slice AX (lC+1) kX,.slice AE lE kE,.slice AZ (lR+1) kZ,.bool m.sending,.slice AS lS kS,.slice AY lY kY,.int .i64 m.sctp]∧Own ((w9.alloc (.cells #[.int .i64 0,.int .i64 0,.string ⟨#[]⟩,.int .i64 0,.slice none 0 0,.slice none 0 0,.slice none 0 0,.bool false,.slice none 0 0,.slice none 0 0,.int .i64 0] 28)).setRow w9.heap.size #[.int .i64 m.kind,.int .i64 m.port,.string m.mid,.int .i64 m.dir,.slice AX (lC+1) kX,.slice AE lE kE,.slice AZ (lR+1) kZ,.bool m.sending,.slice AS lS kS,.slice AY lY kY,.int .i64 m.sctp]) b4 31 6 (.slice AX (lC+1) kX) (rs++[[Value.int .i64 77,Value.string ⟨#[]⟩,Value.int .i64 0,Value.int .i64 0,Value.string ⟨#[]⟩,Value.slice none 0 0]])∧Own ((w9.alloc (.cells #[.int .i64 0,.int .i64 0,.string ⟨#[]⟩,.int .i64 0,.slice none 0 0,.slice none 0 0,.slice none 0 0,.bool false,.slice none 0 0,.slice none 0 0,.int .i64 0] 28)).setRow w9.heap.size #[.int .i64 m.kind,.int .i64 m.port,.string m.mid,.int .i64 m.dir,.slice AX (lC+1) kX,.slice AE lE kE,.slice AZ (lR+1) kZ,.bool m.sending,.slice AS lS kS,.slice AY lY kY,.int .i64 m.sctp]) b6 9 1 (.slice AZ (lR+1) kZ) (rR++[[Value.string ⟨#[115,112,97,114,101]⟩]])):=Lib.hid (by
  have hl:=HGE.out
  have h2:=H9.out.2.2.2.1.alloc (.cells #[.int .i64 0,.int .i64 0,.string ⟨#[]⟩,.int .i64 0,.slice none 0 0,.slice none 0 0,.slice none 0 0,.bool false,.slice none 0 0,.slice none 0 0,.int .i64 0] 28)
  have h3:=H9.out.2.2.2.2.alloc (.cells #[.int .i64 0,.int .i64 0,.string ⟨#[]⟩,.int .i64 0,.slice none 0 0,.slice none 0 0,.slice none 0 0,.bool false,.slice none 0 0,.slice none 0 0,.int .i64 0] 28)
  exact ⟨below_row (H9.out.1.alloc (by omega) _) (by omega) _,(H9.out.2.1.alloc _).farRow (by omega) _,(H9.out.2.2.1.alloc _).farRow (by omega) _,(Whole.new _ _ _).row _,h2.farRow (h2.apart (Whole.new _ _ _) (by decide)) _,h3.farRow (h3.apart (Whole.new _ _ _) (by decide)) _⟩)
 clear H9
 generalize ((w9.alloc (.cells #[.int .i64 0,.int .i64 0,.string ⟨#[]⟩,.int .i64 0,.slice none 0 0,.slice none 0 0,.slice none 0 0,.bool false,.slice none 0 0,.slice none 0 0,.int .i64 0] 28)).setRow w9.heap.size #[.int .i64 m.kind,.int .i64 m.port,.string m.mid,.int .i64 m.dir,.slice AX (lC+1) kX,.slice AE lE kE,.slice AZ (lR+1) kZ,.bool m.sending,.slice AS lS kS,.slice AY lY kY,.int .i64 m.sctp])=w10 at *
 generalize w9.heap.size=gY at *
 obtain ⟨gK,kX',hvx,-,hgK,hlK,hck,-,hcK,-⟩:=H10.out.2.2.2.2.1.at_ (i:=lC) (r:=[Value.int .i64 77,Value.string ⟨#[]⟩,Value.int .i64 0,Value.int .i64 0,Value.string ⟨#[]⟩,Value.slice none 0 0]) (by rw [List.getElem?_append_right (by rw [HRS.out.1];exact Nat.le_refl _),HRS.out.1,Nat.sub_self];rfl)
 obtain ⟨gZ,kZ',hvz,-,hgZ,hlZ,hcz,-,hcZ,-⟩:=H10.out.2.2.2.2.2.at_ (i:=lR) (r:=[Value.string ⟨#[115,112,97,114,101]⟩]) (by rw [List.getElem?_append_right (by rw [HRT.out.1];exact Nat.le_refl _),HRT.out.1,Nat.sub_self];rfl)
 rw [List.length_append,HRS.out.1] at hvx hck
 rw [List.length_append,HRT.out.1] at hvz hcz
 injection hvx with e1 _ e3
 injection hvz with e4 _ e6
 subst e1 e3 e4 e6
 have HGK:=Lib.hid (And.intro hgK (And.intro hlK (And.intro hgZ hlZ)))
 have hk1:lC≤kX:=by simp only [List.length_cons,List.length_nil] at hck;omega
 have hk2:lR≤kZ:=by simp only [List.length_cons,List.length_nil] at hcz;omega
 clear hgK hlK hck hcK hgZ hlZ hcz hcZ
 have HS0:Hid (∀L,(TillOne (fun W=>Only (fun j=>j=gX) w10 W) (fun W=>W.cell? ⟨gX,4,none⟩=some (.slice (some ⟨gK,0,none⟩) (lC+1) kX)∧W.cell? ⟨gX,6,none⟩=some (.slice (some ⟨gZ,0,none⟩) (lR+1) kZ)) 13) L w10.drew):=Lib.hid fun L=>TillOne.mk (Only.refl _ _).drew ⟨H10.out.2.2.1.drew.cell 4,H10.out.2.2.1.drew.cell 6⟩
 have HNX:Hid (∀W,Only (fun j=>j=gX) w10 W→Whole W N 28 #[.int .i64 m.kind,.int .i64 m.port,.string m.mid,.int .i64 m.dir,.slice AC lC kC,.slice AE lE kE,.slice AR lR kR,.bool m.sending,.slice AS lS kS,.slice AY lY kY,.int .i64 m.sctp]):=Lib.hid fun W hW=>H10.out.2.1.only hW (fun e=>by have h1:=HGE.out;have h2:N=gX:=e;omega)
 have HA0:Hid (∀W,Ahead (TillOne (fun W=>Only (fun j=>j=gX) w10 W) (fun W=>W.cell? ⟨gX,4,none⟩=some (.slice (some ⟨gK,0,none⟩) (lC+1) kX)∧W.cell? ⟨gX,6,none⟩=some (.slice (some ⟨gZ,0,none⟩) (lR+1) kZ)) 13) 13 W→W.cell? ⟨gX,4,none⟩=some (.slice (some ⟨gK,0,none⟩) (lC+1) kX)):=Lib.hid fun W h=>(TillOne.get h).2.1
 have HA1:Hid (∀W,Ahead (TillOne (fun W=>Only (fun j=>j=gX) w10 W) (fun W=>W.cell? ⟨gX,4,none⟩=some (.slice (some ⟨gK,0,none⟩) (lC+1) kX)∧W.cell? ⟨gX,6,none⟩=some (.slice (some ⟨gZ,0,none⟩) (lR+1) kZ)) 13) 13 W→W.cell? ⟨gX,6,none⟩=some (.slice (some ⟨gZ,0,none⟩) (lR+1) kZ)):=Lib.hid fun W h=>(TillOne.get h).2.2
 have HA2:Hid (∀W,Ahead (TillOne (fun W=>Only (fun j=>j=gX) w10 W) (fun W=>W.cell? ⟨gX,4,none⟩=some (.slice (some ⟨gK,0,none⟩) (lC+1) kX)∧W.cell? ⟨gX,6,none⟩=some (.slice (some ⟨gZ,0,none⟩) (lR+1) kZ)) 13) 13 W→W.cell? ⟨N,4,none⟩=some (.slice AC lC kC)):=Lib.hid fun W h=>(HNX.out W (TillOne.get h).1).cell 4
 have HA3:Hid (∀W,Ahead (TillOne (fun W=>Only (fun j=>j=gX) w10 W) (fun W=>W.cell? ⟨gX,4,none⟩=some (.slice (some ⟨gK,0,none⟩) (lC+1) kX)∧W.cell? ⟨gX,6,none⟩=some (.slice (some ⟨gZ,0,none⟩) (lR+1) kZ)) 13) 15 W→W.cell? ⟨N,6,none⟩=some (.slice AR lR kR)):=Lib.hid fun W h=>(HNX.out W (h.elim fun L hl=>hl.2.1)).cell 6
 refine wp_region_late (TillOne (fun W=>Only (fun j=>j=gX) w10 W) (fun W=>W.cell? ⟨gX,4,none⟩=some (.slice (some ⟨gK,0,none⟩) (lC+1) kX)∧W.cell? ⟨gX,6,none⟩=some (.slice (some ⟨gZ,0,none⟩) (lR+1) kZ)) 13) (by as_aux_lemma=>kernel_rfl) ?_
 change wpLate Tryz.prog .any _ _ _ 16 #[false,false,false,false,false,false,false,false,false,false,false,false,false,false,false,false] _ _
 refine wpLate.take (i:=0) (q:=13) (oi:=_) (v:= ?_) rfl (by as_aux_lemma=>kernel_rfl) (by as_aux_lemma=>kernel_rfl) (by as_aux_lemma=>kernel_rfl) (by as_aux_lemma=>kernel_rfl) (by rfl) (fun _ _ _ h=>h) (TillOne.set (by decide)) (HS0.out _) (Or.inl ⟨by rfl,?_⟩) ?_
 case refine_2=>intro W hw;have e0:=HA0.out W hw;have e1:=HA1.out W hw;have e2:=HA2.out W hw;clear hw;go_simp;(try with_reducible rfl)
 simp only [Act.put,List.setIfInBounds_toArray,List.set_cons_succ,List.set_cons_zero]
 refine wpLate.take (i:=1) (q:=13) (oi:=_) (v:= ?_) rfl (by as_aux_lemma=>kernel_rfl) (by as_aux_lemma=>kernel_rfl) (by as_aux_lemma=>kernel_rfl) (by as_aux_lemma=>kernel_rfl) (by rfl) (fun _ _ _ h=>h) (TillOne.set (by decide)) (HS0.out _) (Or.inl ⟨by rfl,?_⟩) ?_
 case refine_2=>intro W hw;have e0:=HA0.out W hw;have e1:=HA1.out W hw;have e2:=HA2.out W hw;clear hw;go_simp;(try with_reducible rfl)
 simp only [Act.put,List.setIfInBounds_toArray,List.set_cons_succ,List.set_cons_zero]
 refine wpLate.take (i:=2) (q:=13) (oi:=_) (v:= ?_) rfl (by as_aux_lemma=>kernel_rfl) (by as_aux_lemma=>kernel_rfl) (by as_aux_lemma=>kernel_rfl) (by as_aux_lemma=>kernel_rfl) (by rfl) (fun _ _ _ h=>h) (TillOne.set (by decide)) (HS0.out _) (Or.inl ⟨by rfl,?_⟩) ?_
 case refine_2=>intro W hw;have e0:=HA0.out W hw;have e1:=HA1.out W hw;have e2:=HA2.out W hw;clear hw;go_simp;(try with_reducible rfl)
 simp only [Act.put,List.setIfInBounds_toArray,List.set_cons_succ,List.set_cons_zero]
 refine wpLate.take (i:=3) (q:=13) (oi:=_) (v:= ?_) rfl (by as_aux_lemma=>kernel_rfl) (by as_aux_lemma=>kernel_rfl) (by as_aux_lemma=>kernel_rfl) (by as_aux_lemma=>kernel_rfl) (by rfl) (fun _ _ _ h=>h) (TillOne.set (by decide)) (HS0.out _) (Or.inl ⟨by rfl,?_⟩) ?_
 case refine_2=>intro W hw;have e0:=HA0.out W hw;have e1:=HA1.out W hw;have e2:=HA2.out W hw;clear hw;go_simp;(try with_reducible rfl)
 simp only [Act.put,List.setIfInBounds_toArray,List.set_cons_succ,List.set_cons_zero]
 refine wpLate.take (i:=4) (q:=13) (oi:=_) (v:= ?_) rfl (by as_aux_lemma=>kernel_rfl) (by as_aux_lemma=>kernel_rfl) (by as_aux_lemma=>kernel_rfl) (by as_aux_lemma=>kernel_rfl) (by rfl) (fun _ _ _ h=>h) (TillOne.set (by decide)) (HS0.out _) (Or.inl ⟨by rfl,?_⟩) ?_
 case refine_2=>intro W hw;have e0:=HA0.out W hw;have e1:=HA1.out W hw;have e2:=HA2.out W hw;clear hw;go_simp;(try with_reducible rfl)
 simp only [Act.put,List.setIfInBounds_toArray,List.set_cons_succ,List.set_cons_zero]
 refine wpLate.take (i:=5) (q:=13) (oi:=_) (v:= ?_) rfl (by as_aux_lemma=>kernel_rfl) (by as_aux_lemma=>kernel_rfl) (by as_aux_lemma=>kernel_rfl) (by as_aux_lemma=>kernel_rfl) (by rfl) (fun _ _ _ h=>h) (TillOne.set (by decide)) (HS0.out _) (Or.inl ⟨by rfl,?_⟩) ?_
 case refine_2=>intro W hw;have e0:=HA0.out W hw;have e1:=HA1.out W hw;have e2:=HA2.out W hw;clear hw;go_simp;(try with_reducible rfl)
 simp only [Act.put,List.setIfInBounds_toArray,List.set_cons_succ,List.set_cons_zero]
 refine wpLate.take (i:=6) (q:=13) (oi:=_) (v:= ?_) rfl (by as_aux_lemma=>kernel_rfl) (by as_aux_lemma=>kernel_rfl) (by as_aux_lemma=>kernel_rfl) (by as_aux_lemma=>kernel_rfl) (by rfl) (fun _ _ _ h=>h) (TillOne.set (by decide)) (HS0.out _) (Or.inl ⟨by rfl,?_⟩) ?_
 case refine_2=>intro W hw;have e0:=HA0.out W hw;have e1:=HA1.out W hw;have e2:=HA2.out W hw;clear hw;go_simp;(try with_reducible rfl)
 simp only [Act.put,List.setIfInBounds_toArray,List.set_cons_succ,List.set_cons_zero]
 refine wpLate.take (i:=7) (q:=13) (oi:=_) (v:= ?_) rfl (by as_aux_lemma=>kernel_rfl) (by as_aux_lemma=>kernel_rfl) (by as_aux_lemma=>kernel_rfl) (by as_aux_lemma=>kernel_rfl) (by rfl) (fun _ _ _ h=>h) (TillOne.set (by decide)) (HS0.out _) (Or.inl ⟨by rfl,?_⟩) ?_
 case refine_2=>intro W hw;have e0:=HA0.out W hw;have e1:=HA1.out W hw;have e2:=HA2.out W hw;clear hw;go_simp;(try with_reducible rfl)
 simp only [Act.put,List.setIfInBounds_toArray,List.set_cons_succ,List.set_cons_zero]
 refine wpLate.take (i:=8) (q:=15) (oi:=_) (v:= ?_) rfl (by as_aux_lemma=>kernel_rfl) (by as_aux_lemma=>kernel_rfl) (by as_aux_lemma=>kernel_rfl) (by as_aux_lemma=>kernel_rfl) (by rfl) (fun _ _ _ h=>h) (TillOne.set (by decide)) (HS0.out _) (Or.inl ⟨by rfl,?_⟩) ?_
 case refine_2=>intro W hw;have e3:=HA3.out W hw;clear hw;go_simp;(try with_reducible rfl)
 simp only [Act.put,List.setIfInBounds_toArray,List.set_cons_succ,List.set_cons_zero]
 refine wpLate.take (i:=9) (q:=15) (oi:=_) (v:= ?_) rfl (by as_aux_lemma=>kernel_rfl) (by as_aux_lemma=>kernel_rfl) (by as_aux_lemma=>kernel_rfl) (by as_aux_lemma=>kernel_rfl) (by rfl) (fun _ _ _ h=>h) (TillOne.set (by decide)) (HS0.out _) (Or.inl ⟨by rfl,?_⟩) ?_
 case refine_2=>intro W hw;have e3:=HA3.out W hw;clear hw;go_simp;(try with_reducible rfl)
 simp only [Act.put,List.setIfInBounds_toArray,List.set_cons_succ,List.set_cons_zero]
 refine wpLate.take (i:=10) (q:=15) (oi:=_) (v:= ?_) rfl (by as_aux_lemma=>kernel_rfl) (by as_aux_lemma=>kernel_rfl) (by as_aux_lemma=>kernel_rfl) (by as_aux_lemma=>kernel_rfl) (by rfl) (fun _ _ _ h=>h) (TillOne.set (by decide)) (HS0.out _) (Or.inl ⟨by rfl,?_⟩) ?_
 case refine_2=>intro W hw;have e3:=HA3.out W hw;clear hw;go_simp;(try with_reducible rfl)
 simp only [Act.put,List.setIfInBounds_toArray,List.set_cons_succ,List.set_cons_zero]
 refine wpLate.take (i:=11) (q:=15) (oi:=_) (v:= ?_) rfl (by as_aux_lemma=>kernel_rfl) (by as_aux_lemma=>kernel_rfl) (by as_aux_lemma=>kernel_rfl) (by as_aux_lemma=>kernel_rfl) (by rfl) (fun _ _ _ h=>h) (TillOne.set (by decide)) (HS0.out _) (Or.inl ⟨by rfl,?_⟩) ?_
 case refine_2=>intro W hw;have e3:=HA3.out W hw;clear hw;go_simp;(try with_reducible rfl)
 simp only [Act.put,List.setIfInBounds_toArray,List.set_cons_succ,List.set_cons_zero]
 refine wpLate.take (i:=12) (q:=13) (oi:=_) (v:= ?_) rfl (by as_aux_lemma=>kernel_rfl) (by as_aux_lemma=>kernel_rfl) (by as_aux_lemma=>kernel_rfl) (by as_aux_lemma=>kernel_rfl) (by rfl) (fun _ _ _ h=>h) (TillOne.set (by decide)) (HS0.out _) (Or.inl ⟨by rfl,?_⟩) ?_
 case refine_2=>intro W hw;have e0:=HA0.out W hw;have e1:=HA1.out W hw;have e2:=HA2.out W hw;clear hw;go_simp;(try with_reducible rfl)
 simp only [Act.put,List.setIfInBounds_toArray,List.set_cons_succ,List.set_cons_zero]
 have c4:w10.drew.cell? ⟨gX,4,none⟩=some (.slice (some ⟨gK,0,none⟩) (lC+1) kX):=H10.out.2.2.1.drew.cell 4
 have f4:w10.drew.frozen? ⟨gX,4,none⟩=false:=H10.out.2.2.1.drew.frz 4
 have c6:(w10.drew.setCell ⟨gX,4,none⟩ (.slice (some ⟨gK,0,none⟩) lC kX)).cell? ⟨gX,6,none⟩=some (.slice (some ⟨gZ,0,none⟩) (lR+1) kZ):=(H10.out.2.2.1.drew.set 4 _).cell 6
 have f6:(w10.drew.setCell ⟨gX,4,none⟩ (.slice (some ⟨gK,0,none⟩) lC kX)).frozen? ⟨gX,6,none⟩=false:=(H10.out.2.2.1.drew.set 4 _).frz 6
 have c6b:w10.cell? ⟨gX,6,none⟩=some (.slice (some ⟨gZ,0,none⟩) (lR+1) kZ):=H10.out.2.2.1.cell 6
 have f6b:w10.frozen? ⟨gX,6,none⟩=false:=H10.out.2.2.1.frz 6
 have HS1:Hid (∀L,L.getD 13 true=true→(TillOne (fun W=>Only (fun j=>j=gX) w10 W) (fun W=>W.cell? ⟨gX,4,none⟩=some (.slice (some ⟨gK,0,none⟩) (lC+1) kX)∧W.cell? ⟨gX,6,none⟩=some (.slice (some ⟨gZ,0,none⟩) (lR+1) kZ)) 13) L (w10.drew.setCell ⟨gX,4,none⟩ (.slice (some ⟨gK,0,none⟩) lC kX))):=Lib.hid fun L hL=>TillOne.past ((Only.refl (fun j=>j=gX) w10).drew.setCell (p:=⟨gX,4,none⟩) (.inl rfl) _) hL
 have HS2:Hid (∀L,L.getD 13 true=true→(TillOne (fun W=>Only (fun j=>j=gX) w10 W) (fun W=>W.cell? ⟨gX,4,none⟩=some (.slice (some ⟨gK,0,none⟩) (lC+1) kX)∧W.cell? ⟨gX,6,none⟩=some (.slice (some ⟨gZ,0,none⟩) (lR+1) kZ)) 13) L ((w10.drew.setCell ⟨gX,4,none⟩ (.slice (some ⟨gK,0,none⟩) lC kX)).setCell ⟨gX,6,none⟩ (.slice (some ⟨gZ,0,none⟩) lR kZ))):=Lib.hid fun L hL=>TillOne.past (((Only.refl (fun j=>j=gX) w10).drew.setCell (p:=⟨gX,4,none⟩) (.inl rfl) _).setCell (p:=⟨gX,6,none⟩) (.inl rfl) _) hL
 refine wpLate.ready (rs:=[13]) (by as_aux_lemma=>kernel_rfl) (by simp) (eachLate.cons rfl (fun K hK=> ?_) eachLate.nil)
 go_simp
 refine hK.out _ _ (HS1.out _ rfl) ?_
 clear hK K
 try simp only [Act.put,List.setIfInBounds_toArray,List.set_cons_succ,List.set_cons_zero]
 refine wpLate.take (i:=14) (q:=15) (oi:=_) (v:= ?_) rfl (by as_aux_lemma=>kernel_rfl) (by as_aux_lemma=>kernel_rfl) (by as_aux_lemma=>kernel_rfl) (by as_aux_lemma=>kernel_rfl) (by rfl) (fun _ _ _ h=>h) (TillOne.set (by decide)) (HS1.out _ rfl) (Or.inl ⟨by rfl,?_⟩) ?_
 case refine_2=>intro W hw;have e3:=HA3.out W hw;clear hw;go_simp;(try with_reducible rfl)
 simp only [Act.put,List.setIfInBounds_toArray,List.set_cons_succ,List.set_cons_zero]
 refine wpLate.ready (rs:=[15]) (by as_aux_lemma=>kernel_rfl) (by simp) (eachLate.cons rfl (fun K hK=> ?_) eachLate.nil)
 go_simp
 refine hK.out _ _ (HS2.out _ rfl) ?_
 clear hK K
 try simp only [Act.put,List.setIfInBounds_toArray,List.set_cons_succ,List.set_cons_zero]
 refine wpLate.done (by as_aux_lemma=>kernel_rfl) ?_ _
 have H12:Hid (Below N w ((w10.setCell ⟨gX,4,none⟩ (.slice (some ⟨gK,0,none⟩) lC kX)).setCell ⟨gX,6,none⟩ (.slice (some ⟨gZ,0,none⟩) lR kZ)).drew∧Whole ((w10.setCell ⟨gX,4,none⟩ (.slice (some ⟨gK,0,none⟩) lC kX)).setCell ⟨gX,6,none⟩ (.slice (some ⟨gZ,0,none⟩) lR kZ)).drew N 28 #[.int .i64 m.kind,.int .i64 m.port,.string m.mid,.int .i64 m.dir,.slice AC lC kC,.slice AE lE kE,.slice AR lR kR,.bool m.sending,.slice AS lS kS,.slice AY lY kY,.int .i64 m.sctp]∧Whole ((w10.setCell ⟨gX,4,none⟩ (.slice (some ⟨gK,0,none⟩) lC kX)).setCell ⟨gX,6,none⟩ (.slice (some ⟨gZ,0,none⟩) lR kZ)).drew gX 28 #[.int .i64 m.kind,.int .i64 m.port,.string m.mid,.int .i64 m.dir,.slice (some ⟨gK,0,none⟩) lC kX,.slice AE lE kE,.slice (some ⟨gZ,0,none⟩) lR kZ,.bool m.sending,.slice AS lS kS,.slice AY lY kY,.int .i64 m.sctp]∧Whole ((w10.setCell ⟨gX,4,none⟩ (.slice (some ⟨gK,0,none⟩) lC kX)).setCell ⟨gX,6,none⟩ (.slice (some ⟨gZ,0,none⟩) lR kZ)).drew gY 28 #[.int .i64 m.kind,.int .i64 m.port,.string m.mid,.int .i64 m.dir,.slice (some ⟨gK,0,none⟩) (lC+1) kX,.slice AE lE kE,.slice (some ⟨gZ,0,none⟩) (lR+1) kZ,.bool m.sending,.slice AS lS kS,.slice AY lY kY,.int .i64 m.sctp]∧Own ((w10.setCell ⟨gX,4,none⟩ (.slice (some ⟨gK,0,none⟩) lC kX)).setCell ⟨gX,6,none⟩ (.slice (some ⟨gZ,0,none⟩) lR kZ)).drew b4 31 6 (.slice (some ⟨gK,0,none⟩) (lC+1) kX) (rs++[[Value.int .i64 77,Value.string ⟨#[]⟩,Value.int .i64 0,Value.int .i64 0,Value.string ⟨#[]⟩,Value.slice none 0 0]])∧Own ((w10.setCell ⟨gX,4,none⟩ (.slice (some ⟨gK,0,none⟩) lC kX)).setCell ⟨gX,6,none⟩ (.slice (some ⟨gZ,0,none⟩) lR kZ)).drew b6 9 1 (.slice (some ⟨gZ,0,none⟩) (lR+1) kZ) (rR++[[Value.string ⟨#[115,112,97,114,101]⟩]])):=Lib.hid (by
  have hl:=HGE.out
  have hg:=HGK.out
  have hy:=H10.out.2.2.2.1.lt
  have hYX:gY≠gX:=fun e=>by subst e;omega
  refine ⟨((H10.out.1.setCell (p:=⟨gX,4,none⟩) (by show N≤gX;omega) _).setCell (p:=⟨gX,6,none⟩) (by show N≤gX;omega) _).drew,((H10.out.2.1.far (p:=⟨gX,4,none⟩) (by show N≠gX;omega) _).far (p:=⟨gX,6,none⟩) (by show N≠gX;omega) _).drew,((H10.out.2.2.1.set 4 _).set 6 _).drew,((H10.out.2.2.2.1.far (p:=⟨gX,4,none⟩) hYX _).far (p:=⟨gX,6,none⟩) hYX _).drew,((H10.out.2.2.2.2.1.far (p:=⟨gX,4,none⟩) (fun e=> ?_) _).far (p:=⟨gX,6,none⟩) (fun e=> ?_) _).drew,((H10.out.2.2.2.2.2.far (p:=⟨gX,4,none⟩) (fun e=> ?_) _).far (p:=⟨gX,6,none⟩) (fun e=> ?_) _).drew⟩
  · have h1:gK=gX:=Option.some.inj e
    omega
  · have h1:gK=gX:=Option.some.inj e
    omega
  · have h1:gZ=gX:=Option.some.inj e
    omega
  · have h1:gZ=gX:=Option.some.inj e
    omega)
 clear c4 f4 c6 f6 c6b f6b hk1 hk2 HS0 HS1 HS2 HA0 HA1 HA2 HA3 HNX H10
 generalize ((w10.setCell ⟨gX,4,none⟩ (.slice (some ⟨gK,0,none⟩) lC kX)).setCell ⟨gX,6,none⟩ (.slice (some ⟨gZ,0,none⟩) lR kZ)).drew=w12 at *
 have HLE:Hid (N≤w12.heap.size):=Lib.hid (by have:=H12.out.2.1.lt;omega)
 have HX0:Hid (MediaV w12 w12.heap.size (mcell m (.slice (some ⟨gK,0,none⟩) lC kX) (.slice AE lE kE) (.slice (some ⟨gZ,0,none⟩) lR kZ) (.slice AS lS kS) (.slice AY lY kY)) m (.slice (some ⟨gK,0,none⟩) lC kX) (.slice AE lE kE) (.slice (some ⟨gZ,0,none⟩) lR kZ) (.slice AS lS kS) (.slice AY lY kY)):=Lib.hid ⟨rfl,own_codecs1 H12.out.2.2.2.2.1 HLN.out.1 HRS.out.1 HRS.out.2.2.2 H12.out.1 HLE.out,(HMV.out.exts.below H12.out.1).more HLE.out,own_texts1 (by rw [HRR.out];exact H12.out.2.2.2.2.2) HLN.out.2,(HMV.out.sources.below H12.out.1).more HLE.out,(HMV.out.crypto.below H12.out.1).more HLE.out⟩
 have HWR:Hid (Calls Tryz.prog 8 #[.agg #[.int .i64 m.kind,.int .i64 m.port,.string m.mid,.int .i64 m.dir,.slice (some ⟨gK,0,none⟩) lC kX,.slice AE lE kE,.slice (some ⟨gZ,0,none⟩) lR kZ,.bool m.sending,.slice AS lS kS,.slice AY lY kY,.int .i64 m.sctp]] w12 (WriteO 65 w12 m)):=Lib.hid (write_any _ m _ _ _ _ _ w12 HX0.out HZ.out (HE.out.1.under (by rw [HN.out];exact H12.out.1)).env (by have:=HLE.out;have:=HE.out.2;rw [HN.out] at this;omega))
 go_upto_region 9 with (first | ((with_reducible refine wpList_load_all ?_ 28 (.tmp 3) ?_ H12.out.2.2.1 ?_ Tryz.sizeMedia ?_ Tryz.underlying28 ?_ ?_);(with_reducible rfl);(with_reducible rfl);rfl;rfl;rfl) | (go_at_call 8;go_loud ((with_reducible refine HWR.out.mono ?_);rintro e w13 hw13;obtain ⟨vo,rfl,ho13,hb13⟩:=hw13.part;obtain ⟨Ao,co,hvo,-⟩:=Own.form ho13;rw [List.length_map] at hvo;subst hvo;have H13:=Lib.hid (And.intro ho13 hb13);clear hw13 ho13 hb13;dsimp only)))
 have H14:Hid (Below N w (w13.alloc (.cells #[.string (partW m).line,.string (partW m).conn,.slice Ao (partW m).attrs.length co] 34))∧Whole (w13.alloc (.cells #[.string (partW m).line,.string (partW m).conn,.slice Ao (partW m).attrs.length co] 34)) N 28 #[.int .i64 m.kind,.int .i64 m.port,.string m.mid,.int .i64 m.dir,.slice AC lC kC,.slice AE lE kE,.slice AR lR kR,.bool m.sending,.slice AS lS kS,.slice AY lY kY,.int .i64 m.sctp]∧Whole (w13.alloc (.cells #[.string (partW m).line,.string (partW m).conn,.slice Ao (partW m).attrs.length co] 34)) gX 28 #[.int .i64 m.kind,.int .i64 m.port,.string m.mid,.int .i64 m.dir,.slice (some ⟨gK,0,none⟩) lC kX,.slice AE lE kE,.slice (some ⟨gZ,0,none⟩) lR kZ,.bool m.sending,.slice AS lS kS,.slice AY lY kY,.int .i64 m.sctp]∧Whole (w13.alloc (.cells #[.string (partW m).line,.string (partW m).conn,.slice Ao (partW m).attrs.length co] 34)) gY 28 #[.int .i64 m.kind,.int .i64 m.port,.string m.mid,.int .i64 m.dir,.slice (some ⟨gK,0,none⟩) (lC+1) kX,.slice AE lE kE,.slice (some ⟨gZ,0,none⟩) (lR+1) kZ,.bool m.sending,.slice AS lS kS,.slice AY lY kY,.int .i64 m.sctp]∧Own (w13.alloc (.cells #[.string (partW m).line,.string (partW m).conn,.slice Ao (partW m).attrs.length co] 34)) b4 31 6 (.slice (some ⟨gK,0,none⟩) (lC+1) kX) (rs++[[Value.int .i64 77,Value.string ⟨#[]⟩,Value.int .i64 0,Value.int .i64 0,Value.string ⟨#[]⟩,Value.slice none 0 0]])∧Own (w13.alloc (.cells #[.string (partW m).line,.string (partW m).conn,.slice Ao (partW m).attrs.length co] 34)) b6 9 1 (.slice (some ⟨gZ,0,none⟩) (lR+1) kZ) (rR++[[Value.string ⟨#[115,112,97,114,101]⟩]])∧Own (w13.alloc (.cells #[.string (partW m).line,.string (partW m).conn,.slice Ao (partW m).attrs.length co] 34)) w12.heap.size 65 2 (.slice Ao (partW m).attrs.length co) ((partW m).attrs.map acell)∧Whole (w13.alloc (.cells #[.string (partW m).line,.string (partW m).conn,.slice Ao (partW m).attrs.length co] 34)) w13.heap.size 34 #[.string (partW m).line,.string (partW m).conn,.slice Ao (partW m).attrs.length co]):=Lib.hid (by
  have hb:=H13.out.2
  have hs:=hb.size
  have hl:=HLE.out
  exact ⟨(H12.out.1.trans (hb.mono hl)).alloc (by omega) _,(H12.out.2.1.under hb).alloc _,(H12.out.2.2.1.under hb).alloc _,(H12.out.2.2.2.1.under hb).alloc _,(H12.out.2.2.2.2.1.under hb).alloc _,(H12.out.2.2.2.2.2.under hb).alloc _,H13.out.1.alloc _,Whole.new _ _ _⟩)
 have HB1:Hid (w12.heap.size≤w13.heap.size∧gX<w12.heap.size∧gY<w12.heap.size∧gK<w12.heap.size∧gZ<w12.heap.size):=Lib.hid ⟨H13.out.2.size,H12.out.2.2.1.lt,H12.out.2.2.2.1.lt,(Own.lt H12.out.2.2.2.2.1 rfl).2,(Own.lt H12.out.2.2.2.2.2 rfl).2⟩
 have hqk:(w13.alloc (.cells #[.string (partW m).line,.string (partW m).conn,.slice Ao (partW m).attrs.length co] 34)).cell? ⟨gK,lC * 6,none⟩=some (.int .i64 77):=by
  obtain ⟨g',c',e1,-,-,-,-,-,hat,-⟩:=H14.out.2.2.2.2.1.at_ (i:=lC) (r:=[Value.int .i64 77,Value.string ⟨#[]⟩,Value.int .i64 0,Value.int .i64 0,Value.string ⟨#[]⟩,Value.slice none 0 0]) (by rw [List.getElem?_append_right (by rw [HRS.out.1];exact Nat.le_refl _),HRS.out.1,Nat.sub_self];rfl)
  injection e1 with e1 _ _
  obtain rfl:gK=g':=by injection e1 with e1;injection e1
  exact hat 0 (by decide)
 have hqz:(w13.alloc (.cells #[.string (partW m).line,.string (partW m).conn,.slice Ao (partW m).attrs.length co] 34)).cell? ⟨gZ,lR,none⟩=some (.string ⟨#[115,112,97,114,101]⟩):=by
  obtain ⟨g',c',e1,-,-,-,-,-,hat,-⟩:=H14.out.2.2.2.2.2.1.at_ (i:=lR) (r:=[Value.string ⟨#[115,112,97,114,101]⟩]) (by rw [List.getElem?_append_right (by rw [HRT.out.1];exact Nat.le_refl _),HRT.out.1,Nat.sub_self];rfl)
  injection e1 with e1 _ _
  obtain rfl:gZ=g':=by injection e1 with e1;injection e1
  have h:=hat 0 (by decide)
  rw [Nat.mul_one,Nat.add_zero] at h
  exact h
 have HQK:=Lib.hid (And.intro hqk hqz)
 clear hqk hqz H12 H13 HWR
 generalize (w13.alloc (.cells #[.string (partW m).line,.string (partW m).conn,.slice Ao (partW m).attrs.length co] 34))=w14 at *
 generalize w13.heap.size=gP at *
 generalize w12.heap.size=b12 at *
 by_cases hmm:mayM m=true
 · have hp:partW m=partM m:=by unfold partW;rw [if_pos hmm]
   have he:errW m=0:=by unfold errW;rw [if_pos hmm]
   have hIS:=isM_part hmm
   have hSR:=sizR_part hmm HZ.out.typed
   rw [hp] at H14
   rw [he]
   generalize partM m=p at *
   clear hp he hmm
   have HP:=Lib.hid (And.intro hIS hSR)
   have HEW:Hid (EnvR w14∧7≤w14.heap.size):=Lib.hid ⟨HE.out.1.under (by rw [HN.out];exact H14.out.1),by have h1:=H14.out.1.size;have h2:=HE.out.2;have h3:=H14.out.2.1.lt;rw [HN.out] at h2;omega⟩
   have HRD:Hid (∀W,Below w14.heap.size w14 W→Calls Tryz.prog 9 #[.agg #[.string p.line,.string p.conn,.slice Ao p.attrs.length co]] W (ReadO p W)):=Lib.hid fun W hW=>read_any p _ W ((H14.out.2.2.2.2.2.2.1.under hW).reads (Nat.le_refl _)) HP.out.2 (HEW.out.1.under hW) (Nat.le_trans HEW.out.2 hW.size)
   have p0:w14.cell? ⟨gP,0,none⟩=some (.string p.line):=H14.out.2.2.2.2.2.2.2.cell 0
   have p1:w14.cell? ⟨gP,1,none⟩=some (.string p.conn):=H14.out.2.2.2.2.2.2.2.cell 1
   have p2:w14.cell? ⟨gP,2,none⟩=some (.slice Ao p.attrs.length co):=H14.out.2.2.2.2.2.2.2.cell 2
   clear hIS hSR
   go_upto_region 12 with (go_at_call 9;go_loud ((with_reducible refine (HRD.out w14 (Below.refl _ _)).mono ?_);rintro e w15 hw15;obtain ⟨xC,xE,xR,xS,xY,xb,xcs,rfl,hb15,xM⟩:=hw15.is HP.out.1 HZ.out.typed;clear hw15;obtain ⟨xAC,xlC,xkC,rfl⟩:∃A l k,xC=.slice A l k:=(by obtain ⟨A,k,h,-⟩:=xM.hC.form;exact ⟨_,_,_,h⟩);obtain ⟨xAE,xlE,xkE,rfl⟩:∃A l k,xE=.slice A l k:=(by obtain ⟨A,k,h,-⟩:=xM.hE.form;exact ⟨_,_,_,h⟩);obtain ⟨xAR,xlR,xkR,rfl⟩:∃A l k,xR=.slice A l k:=(by obtain ⟨A,k,h,-⟩:=xM.hR.form;exact ⟨_,_,_,h⟩);obtain ⟨xAS,xlS,xkS,rfl⟩:∃A l k,xS=.slice A l k:=(by obtain ⟨A,k,h,-⟩:=xM.hS.form;exact ⟨_,_,_,h⟩);obtain ⟨xAY,xlY,xkY,rfl⟩:∃A l k,xY=.slice A l k:=(by obtain ⟨A,k,h,-⟩:=xM.hY.form;exact ⟨_,_,_,h⟩);have H15:=Lib.hid (And.intro hb15 xM);clear hb15 xM;unfold mcell;dsimp only))
   have HG:Hid (w14.heap.size≤w15.heap.size∧gX<w15.heap.size):=Lib.hid (by have h1:=H15.out.1.size;have h2:=H14.out.2.2.1.lt;exact ⟨h1,by omega⟩)
   have HK0:=Lib.hid (KP.of (G:=w15.heap.size) (MB:=#[.int .i64 m.kind,.int .i64 m.port,.string m.mid,.int .i64 m.dir,.slice xAC xlC xkC,.slice xAE xlE xkE,.slice xAR xlR xkR,.bool m.sending,.slice xAS xlS xkS,.slice xAY xlY xkY,.int .i64 m.sctp]) H15.out.2 H15.out.1 HG.out.1 rfl)
   have HLN2:Hid (xcs.length=xlC∧xlC≤64∧m.rids.length=xlR∧xlR≤64):=Lib.hid (by
    obtain ⟨A,c,e,-⟩:=H15.out.2.hC.form
    obtain ⟨A',c',e',-⟩:=H15.out.2.hR.form
    injection e with e1 e2 e3
    injection e' with e1' e2' e3'
    rw [List.length_map] at e2 e2'
    have h1:=H15.out.2.lens.1
    have h2:=H15.out.2.lens.2.2.1
    rw [H15.out.2.eqC,List.length_map] at h1
    omega)
   rw [HLN2.out.1] at HK0
   obtain ⟨F,hF⟩:∃F,(fun i=>(xcs.map (fun c:CodecS×Value=>c.2)).getD i (Value.bool false))=F:=⟨_,rfl⟩
   rw [hF] at HK0
   have HFL:Hid (∀i,i<xlC→∃A l c,F i=.slice A l c∧l≤64):=Lib.hid fun i hi=>by
    have hl:i<xcs.length:=by rw [HLN2.out.1];exact hi
    have hm:=List.getElem_mem hl
    obtain ⟨A,c,e,-⟩:=(H15.out.2.hF _ hm).form
    have h1:=H15.out.2.lens.2.2.2.2.2 (xcs[i]).1 (by rw [H15.out.2.eqC];exact List.mem_map_of_mem hm)
    refine ⟨A,_,c,?_,h1⟩
    rw [←hF]
    show (xcs.map (fun c:CodecS×Value=>c.2)).getD i (Value.bool false)=_
    rw [List.getD_eq_getElem?_getD,List.getElem?_map,List.getElem?_eq_getElem hl]
    show (xcs[i]).2=_
    rw [e,List.length_map]
   clear hF p0 p1 p2
   generalize hW0:(w15.alloc (.cells #[.int .i64 m.kind,.int .i64 m.port,.string m.mid,.int .i64 m.dir,.slice xAC xlC xkC,.slice xAE xlE xkE,.slice xAR xlR xkR,.bool m.sending,.slice xAS xlS xkS,.slice xAY xlY xkY,.int .i64 m.sctp] 28))=W0 at *
   clear hW0 H15
   generalize w15.heap.size=G at *
   have g4:W0.cell? ⟨G,4,none⟩=some (.slice xAC xlC xkC):=HK0.out.box.cell 4
   go_upto_region 13 with fail
   go_loopw [80] (fun s80 wr=>∃i:Nat,i≤xlC∧s80=.int .i64 i∧KP w14.heap.size w14 G #[.int .i64 m.kind,.int .i64 m.port,.string m.mid,.int .i64 m.dir,.slice xAC xlC xkC,.slice xAE xlE xkE,.slice xAR xlR xkR,.bool m.sending,.slice xAS xlS xkS,.slice xAY xlY xkY,.int .i64 m.sctp] (.slice xAC xlC xkC) (.slice xAR xlR xkR) xlC F (m.rids.map tcell) wr) (fun s80 _=>xlC - (intOf s80).toNat)
   case atStart=>exact ⟨0,Nat.zero_le _,rfl,HK0.out⟩
   case round =>
    clear HK0 g4
    obtain ⟨i,hi,rfl,hkp⟩:=hrel
    by_cases hlt:i<xlC
    · have hS:=Lib.hid hkp
      obtain ⟨gC,u0,rfl,-,hlc,c0,c5,cf,ho⟩:=hkp.at_ hlt
      have HO:=Lib.hid (And.intro ho hlt)
      have g4:wr.cell? ⟨G,4,none⟩=some (.slice (some ⟨gC,0,none⟩) xlC xkC):=hS.out.box.cell 4
      have hk0:(0:Int)≤(i:Int):=by omega
      have hk1:(i:Int)<(xlC:Int):=by omega
      have hkn:xlC≤64:=HLN2.out.2.1
      clear hkp ho c5
      go_upto_region 16 with fail
      have HK1:Hid (KP w14.heap.size w14 G #[.int .i64 m.kind,.int .i64 m.port,.string m.mid,.int .i64 m.dir,.slice (some ⟨gC,0,none⟩) xlC xkC,.slice xAE xlE xkE,.slice xAR xlR xkR,.bool m.sending,.slice xAS xlS xkS,.slice xAY xlY xkY,.int .i64 m.sctp] (.slice (some ⟨gC,0,none⟩) xlC xkC) (.slice xAR xlR xkR) xlC F (m.rids.map tcell) (wr.setCell ⟨gC,i * 6,none⟩ (.int .i64 (-1)))):=Lib.hid (hS.out.setC HO.out.1 HO.out.2 (j:=0) (by decide) _)
      clear g4 c0 cf hS
      generalize wr.setCell ⟨gC,i * 6,none⟩ (.int .i64 (-1))=w1b at *
      obtain ⟨AF,lF,cF,hFe,hl64⟩:=HFL.out i HO.out.2
      obtain ⟨gC',u1,eC,-,-,-,c5,-,-⟩:=HK1.out.at_ HO.out.2
      obtain rfl:gC=gC':=by injection eC with eC;injection eC
      rw [hFe] at c5
      have HFE:=Lib.hid hFe
      have g4:w1b.cell? ⟨G,4,none⟩=some (.slice (some ⟨gC,0,none⟩) xlC xkC):=HK1.out.box.cell 4
      clear eC hFe
      go_upto_region 17 with fail
      go_loopw [95] (fun s95 wr=>∃j:Nat,j≤lF∧s95=.int .i64 j∧KP w14.heap.size w14 G #[.int .i64 m.kind,.int .i64 m.port,.string m.mid,.int .i64 m.dir,.slice (some ⟨gC,0,none⟩) xlC xkC,.slice xAE xlE xkE,.slice xAR xlR xkR,.bool m.sending,.slice xAS xlS xkS,.slice xAY xlY xkY,.int .i64 m.sctp] (.slice (some ⟨gC,0,none⟩) xlC xkC) (.slice xAR xlR xkR) xlC F (m.rids.map tcell) wr) (fun s95 _=>lF - (intOf s95).toNat)
      case atStart=>exact ⟨0,Nat.zero_le _,rfl,HK1.out⟩
      case round =>
       clear HK1 g4 c5
       obtain ⟨j,hj,rfl,hkq⟩:=hrel
       by_cases hjt:j<lF
       · have hS:=Lib.hid hkq
         obtain ⟨gC',u1,eC,-,-,-,c5,-,-⟩:=hkq.at_ HO.out.2
         obtain rfl:gC=gC':=by injection eC with eC;injection eC
         rw [HFE.out] at c5
         obtain ⟨gF,u2,rfl,d0,df,hof⟩:=hkq.fat HO.out.2 HFE.out hjt
         have HOF:=Lib.hid (And.intro hof hjt)
         have g4:wr.cell? ⟨G,4,none⟩=some (.slice (some ⟨gC,0,none⟩) xlC xkC):=hS.out.box.cell 4
         have hj0:(0:Int)≤(j:Int):=by omega
         have hj1:(j:Int)<(lF:Int):=by omega
         have e1:IntKind.i64.wrap ((j:Int)+1)=(j:Int)+1:=IntWalk.i64_in _ (by omega)
         clear hkq hof eC
         go_upto_region 20 with fail
         have HK2:Hid (KP w14.heap.size w14 G #[.int .i64 m.kind,.int .i64 m.port,.string m.mid,.int .i64 m.dir,.slice (some ⟨gC,0,none⟩) xlC xkC,.slice xAE xlE xkE,.slice xAR xlR xkR,.bool m.sending,.slice xAS xlS xkS,.slice xAY xlY xkY,.int .i64 m.sctp] (.slice (some ⟨gC,0,none⟩) xlC xkC) (.slice xAR xlR xkR) xlC F (m.rids.map tcell) (wr.setCell ⟨gF,j,none⟩ (.string ⟨#[116,117,114,110,101,100]⟩))):=Lib.hid (hS.out.setF HO.out.2 HOF.out.1 HFE.out HOF.out.2 _)
         clear g4 c5 d0 df hS
         generalize wr.setCell ⟨gF,j,none⟩ (.string ⟨#[116,117,114,110,101,100]⟩)=w2b at *
         go_wp2
         go_roundw
         case rel=>exact ⟨j+1,by omega,by go_num,HK2.out⟩
         case measure=>simp [intOf];omega
       · have hj1:¬(j:Int)<(lF:Int):=by omega
         have e1:IntKind.i64.wrap ((i:Int)+1)=(i:Int)+1:=IntWalk.i64_in _ (by omega)
         have HK2:=Lib.hid hkq
         clear hkq
         go_wp2
         go_roundw
         case rel=>exact ⟨i+1,by omega,by go_num,HK2.out⟩
         case measure=>simp [intOf];omega
    · have hk1:¬(i:Int)<(xlC:Int):=by omega
      have HQ0:=Lib.hid hkp.q
      have HLR:=Lib.hid (And.intro HLN2.out.2.2.1 HLN2.out.2.2.2)
      have HNG:Hid (w14.heap.size≤G):=Lib.hid HG.out.1
      clear hkp hi hlt HLN2 HFL HG
      go_upto_region 23 with fail
      go_loopw [108] (fun s108 wr=>∃(k:Nat) (A:Option Addr) (c:Nat) (rs':List (List Value)),k≤9∧s108=.int .i64 k∧rs'.length=xlR+k∧KQ w14.heap.size w14 G #[.int .i64 m.kind,.int .i64 m.port,.string m.mid,.int .i64 m.dir,.slice xAC xlC xkC,.slice xAE xlE xkE,.slice A (xlR+k) c,.bool m.sending,.slice xAS xlS xkS,.slice xAY xlY xkY,.int .i64 m.sctp] (.slice A (xlR+k) c) rs' wr) (fun s108 _=>9 - (intOf s108).toNat)
      case atStart=>exact ⟨0,xAR,xkR,_,Nat.zero_le _,rfl,(by rw [List.length_map];exact HLR.out.1),HQ0.out⟩
      case round =>
       clear HQ0
       obtain ⟨k,AQ,cQ,rs',hk,rfl,hrl,hkq⟩:=hrel
       have HRL:=Lib.hid hrl
       have hS:=Lib.hid hkq
       clear hkq hrl
       skip
       by_cases hkt:k<9
       · have hl64:xlR≤64:=HLR.out.2
         have g6:(wr.alloc (.cells #[.string ⟨#[109,111,114,101]⟩] 9)).cell? ⟨G,6,none⟩=some (.slice AQ (xlR+k) cQ):=(hS.out.box.alloc _).cell 6
         have g6b:wr.cell? ⟨G,6,none⟩=some (.slice AQ (xlR+k) cQ):=hS.out.box.cell 6
         have HNC:Hid (w14.heap.size≤wr.heap.size∧w14.heap.size≤(wr.alloc (.cells #[.string ⟨#[109,111,114,101]⟩] 9)).heap.size):=Lib.hid (by have:=hS.out.low.size;rw [World.size_alloc];omega)
         have hk1:(k:Int)<9:=by omega
         have e1:IntKind.i64.wrap ((k:Int)+1)=(k:Int)+1:=IntWalk.i64_in _ (by omega)
         go_upto_region 25 with (at_builtin;go_loud (refine wpList_appendE (base:=w14.heap.size) (rs:=rs') (r:=[.string ⟨#[109,111,114,101]⟩]) rfl (.tmp 111) (.tmp 112) rfl Tryz.underlying24 Tryz.infoStr rfl (Nat.zero_lt_succ _) rfl (hS.out.hR.alloc (.cells #[.string ⟨#[109,111,114,101]⟩] 9)) rfl (Whole.new wr 9 #[.string ⟨#[109,111,114,101]⟩]) rfl (fun u hu=>by simp at hu;subst hu;rfl) (by rw [HRL.out];omega) (by rw [HRL.out];omega) HNC.out.2 ?_;intro v8 w8 ho8 hg8 hn8;obtain ⟨AZ',kZ',hv8,-⟩:=Own.form ho8;rw [List.length_append,HRL.out] at hv8;change v8=.slice AZ' (xlR+(k+1)) kZ' at hv8;subst hv8;have H8:Hid (KQ w14.heap.size w14 G #[.int .i64 m.kind,.int .i64 m.port,.string m.mid,.int .i64 m.dir,.slice xAC xlC xkC,.slice xAE xlE xkE,.slice AZ' (xlR+(k+1)) kZ',.bool m.sending,.slice xAS xlS xkS,.slice xAY xlY xkY,.int .i64 m.sctp] (.slice AZ' (xlR+(k+1)) kZ') (rs'++[[.string ⟨#[109,111,114,101]⟩]]) (w8.setCell ⟨G,6,none⟩ (.slice AZ' (xlR+(k+1)) kZ'))):=Lib.hid (hS.out.app hg8 ho8 HNC.out.1 HNG.out);have x8:w8.cell? ⟨G,6,none⟩=some (.slice AQ (xlR+k) cQ):=(hS.out.box2 hg8).cell 6;have y8:=(hS.out.box2 hg8).frz 6;clear ho8 hg8 hn8))
         go_wp2
         go_roundw
         case rel=>exact ⟨k+1,AZ',kZ',rs'++[[.string ⟨#[109,111,114,101]⟩]],by omega,by go_num,(by rw [List.length_append,HRL.out];rfl),H8.out⟩
         case measure=>simp [intOf];omega
       · have hk1:¬(k:Int)<9:=by omega
         have HS1:=Lib.hid hS.out.low
         have HQ6:Hid (∀W,Below w14.heap.size w14 W→W.cell? ⟨gY,4,none⟩=some (.slice (some ⟨gK,0,none⟩) (lC+1) kX)∧W.cell? ⟨gY,6,none⟩=some (.slice (some ⟨gZ,0,none⟩) (lR+1) kZ)∧W.cell? ⟨N,4,none⟩=some (.slice AC lC kC)∧W.cell? ⟨N,6,none⟩=some (.slice AR lR kR)∧W.cell? ⟨gK,lC * 6,none⟩=some (.int .i64 77)∧W.cell? ⟨gZ,lR,none⟩=some (.string ⟨#[115,112,97,114,101]⟩)):=Lib.hid fun W hW=>by
          have hy:=H14.out.2.2.2.1.under hW
          have hn:=H14.out.2.1.under hW
          have h1:=HB1.out
          have h2:=H14.out.2.2.2.2.2.2.2.lt
          exact ⟨hy.cell 4,hy.cell 6,hn.cell 4,hn.cell 6,(hW.cell (p:=⟨gK,lC * 6,none⟩) (by show gK<_;omega)).trans HQK.out.1,(hW.cell (p:=⟨gZ,lR,none⟩) (by show gZ<_;omega)).trans HQK.out.2⟩
         have HPB:=Lib.hid (H14.out.2.2.2.2.2.2.2.under HS1.out)
         have p0:wr.cell? ⟨gP,0,none⟩=some (.string p.line):=HPB.out.cell 0
         have p1:wr.cell? ⟨gP,1,none⟩=some (.string p.conn):=HPB.out.cell 1
         have p2:wr.cell? ⟨gP,2,none⟩=some (.slice Ao p.attrs.length co):=HPB.out.cell 2
         clear hS HRL hkt hk HPB
         go_upto_region 27 with (go_at_call 9;go_loud ((with_reducible refine (HRD.out _ HS1.out).mono ?_);rintro e w16 hw16;obtain ⟨yC,yE,yR,yS,yY,yb,ycs,rfl,hb16,yM⟩:=hw16.is HP.out.1 HZ.out.typed;clear hw16;obtain ⟨yAC,ylC,ykC,rfl⟩:∃A l k,yC=.slice A l k:=(by obtain ⟨A,k,h,-⟩:=yM.hC.form;exact ⟨_,_,_,h⟩);obtain ⟨yAE,ylE,ykE,rfl⟩:∃A l k,yE=.slice A l k:=(by obtain ⟨A,k,h,-⟩:=yM.hE.form;exact ⟨_,_,_,h⟩);obtain ⟨yAR,ylR,ykR,rfl⟩:∃A l k,yR=.slice A l k:=(by obtain ⟨A,k,h,-⟩:=yM.hR.form;exact ⟨_,_,_,h⟩);obtain ⟨yAS,ylS,ykS,rfl⟩:∃A l k,yS=.slice A l k:=(by obtain ⟨A,k,h,-⟩:=yM.hS.form;exact ⟨_,_,_,h⟩);obtain ⟨yAY,ylY,ykY,rfl⟩:∃A l k,yY=.slice A l k:=(by obtain ⟨A,k,h,-⟩:=yM.hY.form;exact ⟨_,_,_,h⟩);have H16:Hid (Below w14.heap.size w14 w16∧MediaV w16 w16.heap.size (mcell m (.slice yAC ylC ykC) (.slice yAE ylE ykE) (.slice yAR ylR ykR) (.slice yAS ylS ykS) (.slice yAY ylY ykY)) m (.slice yAC ylC ykC) (.slice yAE ylE ykE) (.slice yAR ylR ykR) (.slice yAS ylS ykS) (.slice yAY ylY ykY)):=Lib.hid ⟨HS1.out.trans (hb16.mono HS1.out.size),yM.media⟩;clear hb16 yM;unfold mcell;dsimp only))
         have H17:Hid (Below w14.heap.size w14 (w16.alloc (.cells #[.int .i64 m.kind,.int .i64 m.port,.string m.mid,.int .i64 m.dir,.slice yAC ylC ykC,.slice yAE ylE ykE,.slice yAR ylR ykR,.bool m.sending,.slice yAS ylS ykS,.slice yAY ylY ykY,.int .i64 m.sctp] 28))∧MediaV (w16.alloc (.cells #[.int .i64 m.kind,.int .i64 m.port,.string m.mid,.int .i64 m.dir,.slice yAC ylC ykC,.slice yAE ylE ykE,.slice yAR ylR ykR,.bool m.sending,.slice yAS ylS ykS,.slice yAY ylY ykY,.int .i64 m.sctp] 28)) (w16.alloc (.cells #[.int .i64 m.kind,.int .i64 m.port,.string m.mid,.int .i64 m.dir,.slice yAC ylC ykC,.slice yAE ylE ykE,.slice yAR ylR ykR,.bool m.sending,.slice yAS ylS ykS,.slice yAY ylY ykY,.int .i64 m.sctp] 28)).heap.size #[.int .i64 m.kind,.int .i64 m.port,.string m.mid,.int .i64 m.dir,.slice yAC ylC ykC,.slice yAE ylE ykE,.slice yAR ylR ykR,.bool m.sending,.slice yAS ylS ykS,.slice yAY ylY ykY,.int .i64 m.sctp] m (.slice yAC ylC ykC) (.slice yAE ylE ykE) (.slice yAR ylR ykR) (.slice yAS ylS ykS) (.slice yAY ylY ykY)∧Whole (w16.alloc (.cells #[.int .i64 m.kind,.int .i64 m.port,.string m.mid,.int .i64 m.dir,.slice yAC ylC ykC,.slice yAE ylE ykE,.slice yAR ylR ykR,.bool m.sending,.slice yAS ylS ykS,.slice yAY ylY ykY,.int .i64 m.sctp] 28)) w16.heap.size 28 #[.int .i64 m.kind,.int .i64 m.port,.string m.mid,.int .i64 m.dir,.slice yAC ylC ykC,.slice yAE ylE ykE,.slice yAR ylR ykR,.bool m.sending,.slice yAS ylS ykS,.slice yAY ylY ykY,.int .i64 m.sctp]):=Lib.hid (by
          have hs:=H16.out.1.size
          exact ⟨H16.out.1.alloc hs _,H16.out.2.under ((Below.refl _ w16).alloc (Nat.le_refl _) _),Whole.new _ _ _⟩)
         clear p0 p1 p2 H16
         generalize w16.alloc (.cells #[.int .i64 m.kind,.int .i64 m.port,.string m.mid,.int .i64 m.dir,.slice yAC ylC ykC,.slice yAE ylE ykE,.slice yAR ylR ykR,.bool m.sending,.slice yAS ylS ykS,.slice yAY ylY ykY,.int .i64 m.sctp] 28)=w17 at *
         generalize w16.heap.size=gY2 at *
         have HMN:Hid (∀W,Below w14.heap.size w14 W→MediaV W W.heap.size #[.int .i64 m.kind,.int .i64 m.port,.string m.mid,.int .i64 m.dir,.slice AC lC kC,.slice AE lE kE,.slice AR lR kR,.bool m.sending,.slice AS lS kS,.slice AY lY kY,.int .i64 m.sctp] m (.slice AC lC kC) (.slice AE lE kE) (.slice AR lR kR) (.slice AS lS kS) (.slice AY lY kY)∧MediaV W W.heap.size #[.int .i64 m.kind,.int .i64 m.port,.string m.mid,.int .i64 m.dir,.slice (some ⟨gK,0,none⟩) lC kX,.slice AE lE kE,.slice (some ⟨gZ,0,none⟩) lR kZ,.bool m.sending,.slice AS lS kS,.slice AY lY kY,.int .i64 m.sctp] m (.slice (some ⟨gK,0,none⟩) lC kX) (.slice AE lE kE) (.slice (some ⟨gZ,0,none⟩) lR kZ) (.slice AS lS kS) (.slice AY lY kY)∧Whole W N 28 #[.int .i64 m.kind,.int .i64 m.port,.string m.mid,.int .i64 m.dir,.slice AC lC kC,.slice AE lE kE,.slice AR lR kR,.bool m.sending,.slice AS lS kS,.slice AY lY kY,.int .i64 m.sctp]∧Whole W gX 28 #[.int .i64 m.kind,.int .i64 m.port,.string m.mid,.int .i64 m.dir,.slice (some ⟨gK,0,none⟩) lC kX,.slice AE lE kE,.slice (some ⟨gZ,0,none⟩) lR kZ,.bool m.sending,.slice AS lS kS,.slice AY lY kY,.int .i64 m.sctp]∧Below N w W):=Lib.hid fun W hW=>by
          have hn14:N≤w14.heap.size:=Nat.le_of_lt H14.out.2.1.lt
          have hx:MediaV w14 w14.heap.size #[.int .i64 m.kind,.int .i64 m.port,.string m.mid,.int .i64 m.dir,.slice (some ⟨gK,0,none⟩) lC kX,.slice AE lE kE,.slice (some ⟨gZ,0,none⟩) lR kZ,.bool m.sending,.slice AS lS kS,.slice AY lY kY,.int .i64 m.sctp] m (.slice (some ⟨gK,0,none⟩) lC kX) (.slice AE lE kE) (.slice (some ⟨gZ,0,none⟩) lR kZ) (.slice AS lS kS) (.slice AY lY kY):=⟨rfl,own_codecs1 H14.out.2.2.2.2.1 HLN.out.1 HRS.out.1 HRS.out.2.2.2 H14.out.1 hn14,(HMV.out.exts.below H14.out.1).more hn14,own_texts1 (by rw [HRR.out];exact H14.out.2.2.2.2.2.1) HLN.out.2,(HMV.out.sources.below H14.out.1).more hn14,(HMV.out.crypto.below H14.out.1).more hn14⟩
          exact ⟨((HMV.out.below H14.out.1).more hn14).under hW,hx.under hW,H14.out.2.1.under hW,H14.out.2.2.1.under hW,H14.out.1.trans (hW.mono hn14)⟩
         have HSA:Hid (Calls Tryz.prog 10 #[.agg #[.int .i64 m.kind,.int .i64 m.port,.string m.mid,.int .i64 m.dir,.slice yAC ylC ykC,.slice yAE ylE ykE,.slice yAR ylR ykR,.bool m.sending,.slice yAS ylS ykS,.slice yAY ylY ykY,.int .i64 m.sctp],.agg #[.int .i64 m.kind,.int .i64 m.port,.string m.mid,.int .i64 m.dir,.slice AC lC kC,.slice AE lE kE,.slice AR lR kR,.bool m.sending,.slice AS lS kS,.slice AY lY kY,.int .i64 m.sctp]] w17 fun e w'=>e=.returned (.bool true)∧Below w17.heap.size w17 w'):=Lib.hid (by
          have:=same_yes m (.slice yAC ylC ykC) (.slice yAE ylE ykE) (.slice yAR ylR ykR) (.slice yAS ylS ykS) (.slice yAY ylY ykY) (.slice AC lC kC) (.slice AE lE kE) (.slice AR lR kR) (.slice AS lS kS) (.slice AY lY kY) w17 H17.out.2.1 (HMN.out _ H17.out.1).1
          unfold mcell at this
          exact this)
         have HSB:Hid (∀W,Below w14.heap.size w14 W→Calls Tryz.prog 10 #[.agg #[.int .i64 m.kind,.int .i64 m.port,.string m.mid,.int .i64 m.dir,.slice (some ⟨gK,0,none⟩) lC kX,.slice AE lE kE,.slice (some ⟨gZ,0,none⟩) lR kZ,.bool m.sending,.slice AS lS kS,.slice AY lY kY,.int .i64 m.sctp],.agg #[.int .i64 m.kind,.int .i64 m.port,.string m.mid,.int .i64 m.dir,.slice AC lC kC,.slice AE lE kE,.slice AR lR kR,.bool m.sending,.slice AS lS kS,.slice AY lY kY,.int .i64 m.sctp]] W fun e w'=>e=.returned (.bool true)∧Below W.heap.size W w'):=Lib.hid fun W hW=>by
          have:=same_yes m (.slice (some ⟨gK,0,none⟩) lC kX) (.slice AE lE kE) (.slice (some ⟨gZ,0,none⟩) lR kZ) (.slice AS lS kS) (.slice AY lY kY) (.slice AC lC kC) (.slice AE lE kE) (.slice AR lR kR) (.slice AS lS kS) (.slice AY lY kY) W (HMN.out _ hW).2.1 (HMN.out _ hW).1
          unfold mcell at this
          exact this
         have i1:(lC:Int)<(lC:Int)+1:=by omega
         have i2:(lR:Int)<(lR:Int)+1:=by omega
         clear HX0 HB1 HQK H14 HRD HEW HP HS1 HMV HLR HNG
         go_wp2_with (first | ((with_reducible refine wpList_load_allG ?_ 28 (.tmp 11) ?_ H17.out.2.2 ?_ Tryz.sizeMedia ?_ Tryz.underlying28 ?_ ?_);rfl;(with_reducible rfl);rfl;rfl;rfl) | ((with_reducible refine wpList_load_allG ?_ 28 (.tmp 1) ?_ (HMN.out _ H17.out.1).2.2.1 ?_ Tryz.sizeMedia ?_ Tryz.underlying28 ?_ ?_);rfl;(with_reducible rfl);rfl;rfl;rfl) | ((with_reducible refine wpList_load_allG ?_ 28 (.tmp 3) ?_ (HMN.out _ H18.out).2.2.2.1 ?_ Tryz.sizeMedia ?_ Tryz.underlying28 ?_ ?_);rfl;(with_reducible rfl);rfl;rfl;rfl) | ((with_reducible refine wpList_load_allG ?_ 28 (.tmp 1) ?_ (HMN.out _ H18.out).2.2.1 ?_ Tryz.sizeMedia ?_ Tryz.underlying28 ?_ ?_);rfl;(with_reducible rfl);rfl;rfl;rfl) | (go_at_call 10;go_loud (first | ((with_reducible refine HSA.out.mono ?_);rintro e w18 ⟨rfl,hb18⟩;have H18:Hid (Below w14.heap.size w14 w18):=Lib.hid (H17.out.1.trans (hb18.mono H17.out.1.size));clear hb18;dsimp only) | ((with_reducible refine (HSB.out _ H18.out).mono ?_);rintro e w19 ⟨rfl,hb19⟩;have H19:Hid (Below w14.heap.size w14 w19):=Lib.hid (H18.out.trans (hb19.mono H18.out.size));obtain ⟨q0,q1,q2,q3,q4,q5⟩:=HQ6.out _ H19.out;clear hb19;dsimp only))))
         go_ret
         exact ⟨rfl,by rw [HN.out];exact (HMN.out _ H19.out).2.2.2.2⟩
 · have he:errW m=1:=by unfold errW;rw [if_neg hmm]
   rw [he]
   have g4:w14.cell? ⟨gY,4,none⟩=some (.slice (some ⟨gK,0,none⟩) (lC+1) kX):=H14.out.2.2.2.1.cell 4
   have g6:w14.cell? ⟨gY,6,none⟩=some (.slice (some ⟨gZ,0,none⟩) (lR+1) kZ):=H14.out.2.2.2.1.cell 6
   have n4:w14.cell? ⟨N,4,none⟩=some (.slice AC lC kC):=H14.out.2.1.cell 4
   have n6:w14.cell? ⟨N,6,none⟩=some (.slice AR lR kR):=H14.out.2.1.cell 6
   have k4:=HQK.out.1
   have k6:=HQK.out.2
   have i1:(lC:Int)<(lC:Int)+1:=by omega
   have i2:(lR:Int)<(lR:Int)+1:=by omega
   clear he hmm
   go_wp2
   go_ret
   exact ⟨rfl,by rw [HN.out];exact H14.out.1⟩
end Go.Proofs.YtgnpckelbokniaaGreatDoor
namespace Go.Proofs.YtgnpckelbokniaaGreatDoor
open Go.RowKit Go.ChangeShapes Go.WideShapes Go.ChangeAt Go.Deep
set_option linter.unusedVariables false
set_option linter.unusedSimpArgs false
section
variable {H:Type} {enc:TypeId×Value→H} {P:Program} {w:World} {base:Nat} {spare:Nat→Bool} {held:Bool}
end
section
variable {H:Type} {enc:TypeId×Value→H} {W:World} {base:Nat} {sp:Nat→Bool} {held:Bool}
theorem open_rows {α:Type} {t e:TypeId} {sz by_:Nat} {R:(Nat→Option Value)→α→Prop} {Q:α→Prop} (ht:Tryz.prog.underlying t=some (.slice e)) (hc:Tryz.prog.cellsOf e=sz) (hsz:0<sz) (hby:Tryz.prog.bytesOf e=by_)
 (hel:∀(n:Nat) (cs:List Value) (y:DataW H×List MemPlace) (f:Nat→Option Value),cs.length=sz→(∀j,j<sz→f j=cs[j]?)→DataW.trod enc Tryz.prog W base sp held n e cs=some y→(∀k∈y.1.weights Tryz.prog e,k≤140737488351232)→∃a,R f a∧Q a)
 {fuel:Nat} {v:Value} {x:DataW H×List MemPlace} (h:DataW.trod enc Tryz.prog W base sp held fuel t [v]=some x) (hw:∀n∈x.1.weights Tryz.prog t,n≤140737488351232) :
 ∃L:List α,Rows W W.heap.size sz R v L∧L.length * by_≤140737488351232∧∀a∈L,Q a:=by
 rcases open_slice ht h with ⟨hcs,_⟩ | ⟨ad,len,cap,m,n,D,Pl,hcs,hb,hl,hm,hmm,hx,hi⟩
 · simp at hcs
   subst hcs
   exact ⟨[],Rows.nil _ _ _ _,by simp,fun a ha=>by cases ha⟩
 · simp at hcs
   subst hcs
   have hlm:len≤m:=by rw [hmm];split <;> omega
   rw [hc] at hi
   have hat:∀i,i<len→∃a:α,R (fun j=>W.cell? (ad.add (i * sz+j))) a∧Q a∧∃u,W.cell? (ad.add (i * sz))=some u:=fun i hin=>by
    obtain ⟨cs',hcc,htr⟩:=hi i (by omega)
    obtain ⟨_,hcl,hca⟩:=World.cells?_some hcc
    obtain ⟨a,h1,h2⟩:=hel n cs' _ (fun j=>W.cell? (ad.add (i * sz+j))) hcl (fun j hj=>by
     rw [←Go.Deep.add_add]
     exact hca j hj) htr (fun k hk=>hw k (by
      rw [hx]
      simp only [DataW.weights,ht,List.mem_cons,List.mem_append]
      exact .inr (.inl (weights_mem_all (d:=D i) (List.mem_map.2 ⟨i,List.mem_range.2 hin,rfl⟩) k hk))))
    refine ⟨a,h1,h2,cs'[0]'(by omega),?_⟩
    have:=hca 0 hsz
    rw [List.getElem?_eq_getElem (by omega)] at this
    exact this
   obtain ⟨L,hL,hR⟩:=pick hat
   refine ⟨L,⟨some ad,cap,by rw [hL],by omega,hm,(fun e=>by cases e),fun hn=>⟨ad,rfl,?_,fun i a e=>(hR i a e).1⟩⟩,?_,fun a ha=> ?_⟩
   · obtain ⟨a,_,_,u,h0⟩:=hat 0 (by omega)
     have:=block_lt_of_cell h0
     rwa [add_block] at this
   · have:=hw (m * Tryz.prog.bytesOf e) (by
      rw [hx]
      simp only [DataW.weights,ht,List.mem_cons]
      refine .inl ?_
      have e9:m=((List.range len).map D).length+((List.range (m - len)).map fun j=>D (len+j)).length:=by simp;omega
      rw [←e9])
     rw [hby] at this
     rw [hL]
     exact Nat.le_trans (Nat.mul_le_mul_right _ hlm) this
   · obtain ⟨i,hi2⟩:=List.mem_iff_getElem?.1 ha
     exact (hR i a hi2).2.1
theorem one_cell {cs:List Value} (h:cs.length=1):∃v,cs=[v]:=by
 match cs,h with
 | [v],_=>exact ⟨v,rfl⟩
theorem open_texts {fuel:Nat} {v:Value} {x:DataW H×List MemPlace} (h:DataW.trod enc Tryz.prog W base sp held fuel 24 [v]=some x) (hw:∀n∈x.1.weights Tryz.prog 24,n≤140737488351232) :
 ∃L,TextsV W W.heap.size v L∧L.length * 16≤140737488351232∧∀s∈L,s.size≤140737488351232 :=
 open_rows (e:=9) Tryz.underlying24 (by kernel_rfl) (by decide) (by kernel_rfl) (fun n cs y f hl hf ht hk=>by
  obtain ⟨u,rfl⟩:=one_cell hl
  obtain ⟨s,rfl,hs⟩:=open_str ht hk
  exact ⟨s,hf 0 (by decide),hs⟩) h hw
theorem open_i64 {fuel:Nat} {v:Value} {x:DataW H×List MemPlace} (h:DataW.trod enc Tryz.prog W base sp held fuel 3 [v]=some x):∃n:Int,v=.int .i64 n:=by
 obtain ⟨n,e,_⟩:=DataW.trod_int Tryz.underlying3 h
 simp at e
 exact ⟨n,e⟩
set_option maxRecDepth 100000 in
theorem open_u32s {fuel:Nat} {v:Value} {x:DataW H×List MemPlace} (h:DataW.trod enc Tryz.prog W base sp held fuel 25 [v]=some x) (hw:∀n∈x.1.weights Tryz.prog 25,n≤140737488351232) :
 ∃L,NumsV W W.heap.size v L∧L.length * 4≤140737488351232∧∀n∈L,n<4294967296 :=
 open_rows (e:=72) Tryz.underlying25 (by kernel_rfl) (by decide) (by kernel_rfl) (fun n cs y f hl hf ht hk=>by
  obtain ⟨z,rfl,_,hz⟩:=DataW.trod_int Tryz.underlying72 ht
  simp [Lit.wf,IntKind.min,IntKind.max,IntKind.signed,IntKind.bits] at hz
  refine ⟨z.toNat,?_,by omega⟩
  show f 0=some (.int .u32 (z.toNat:Int))
  rw [show ((z.toNat:Nat):Int)=z by omega]
  exact hf 0 (by decide)) h hw
set_option maxRecDepth 100000 in
theorem open_exts {fuel:Nat} {v:Value} {x:DataW H×List MemPlace} (h:DataW.trod enc Tryz.prog W base sp held fuel 23 [v]=some x) (hw:∀n∈x.1.weights Tryz.prog 23,n≤140737488351232) :
 ∃L,ExtsV W W.heap.size v L∧L.length * 24≤140737488351232∧∀a∈L,a.uri.size≤140737488351232 :=
 open_rows (e:=71) Tryz.underlying23 (by kernel_rfl) (by decide) (by kernel_rfl) (fun n cs y f hl hf ht hk=>by
  obtain ⟨ys,n',_,hy,_,hyl,hfl⟩:=DataW.trod_struct Tryz.underlying71 ht
  match cs,hl with
  | [c0,c1],_ =>
    have f0:DataW.trod enc Tryz.prog W base sp held n' 3 (([c0,c1].drop 0).take (Tryz.prog.cellsOf 3))=ys[0]? :=hfl 0 _ rfl
    have f1:DataW.trod enc Tryz.prog W base sp held n' 9 (([c0,c1].drop 1).take (Tryz.prog.cellsOf 9))=ys[1]? :=hfl 1 _ rfl
    rw [show Tryz.prog.cellsOf 3=1 by kernel_rfl] at f0
    rw [show Tryz.prog.cellsOf 9=1 by kernel_rfl] at f1
    have hyl2:ys.length=2:=hyl
    match ys,hyl2 with
    | [y0,y1],_ =>
      simp only [List.drop_zero,List.take_succ_cons,List.take_zero,List.drop_succ_cons,List.getElem?_cons_zero,List.getElem?_cons_succ] at f0 f1
      obtain ⟨z,rfl⟩:=open_i64 f0
      obtain ⟨s,rfl,hs⟩:=open_str f1 (fun k hk2=>hk k (by
       rw [hy]
       simp only [DataW.weights,Tryz.underlying71]
       exact DataW.weights_mem_each (j:=1) rfl rfl k hk2))
      exact ⟨⟨z,s⟩,⟨hf 0 (by decide),hf 1 (by decide)⟩,hs⟩) h hw
set_option maxRecDepth 100000 in
theorem open_codecs {fuel:Nat} {v:Value} {x:DataW H×List MemPlace} (h:DataW.trod enc Tryz.prog W base sp held fuel 22 [v]=some x) (hw:∀n∈x.1.weights Tryz.prog 22,n≤140737488351232) :
 ∃L,CodecsV W W.heap.size v L∧L.length * 80≤140737488351232∧∀a∈L,(a.name.size≤140737488351232∧a.format.size≤140737488351232∧∀f∈a.feedback,f.size≤140737488351232)∧a.feedback.length * 16≤140737488351232 :=
 open_rows (e:=31) Tryz.underlying22 (by kernel_rfl) (by decide) (by kernel_rfl) (fun n cs y f hl hf ht hk=>by
  obtain ⟨ys,n',_,hy,_,hyl,hfl⟩:=DataW.trod_struct Tryz.underlying31 ht
  match cs,hl with
  | [c0,c1,c2,c3,c4,c5],_ =>
    have f0:DataW.trod enc Tryz.prog W base sp held n' 3 (([c0,c1,c2,c3,c4,c5].drop 0).take (Tryz.prog.cellsOf 3))=ys[0]? :=hfl 0 _ rfl
    have f1:DataW.trod enc Tryz.prog W base sp held n' 9 (([c0,c1,c2,c3,c4,c5].drop 1).take (Tryz.prog.cellsOf 9))=ys[1]? :=hfl 1 _ rfl
    have f2:DataW.trod enc Tryz.prog W base sp held n' 3 (([c0,c1,c2,c3,c4,c5].drop 2).take (Tryz.prog.cellsOf 3))=ys[2]? :=hfl 2 _ rfl
    have f3:DataW.trod enc Tryz.prog W base sp held n' 3 (([c0,c1,c2,c3,c4,c5].drop 3).take (Tryz.prog.cellsOf 3))=ys[3]? :=hfl 3 _ rfl
    have f4:DataW.trod enc Tryz.prog W base sp held n' 9 (([c0,c1,c2,c3,c4,c5].drop 4).take (Tryz.prog.cellsOf 9))=ys[4]? :=hfl 4 _ rfl
    have f5:DataW.trod enc Tryz.prog W base sp held n' 24 (([c0,c1,c2,c3,c4,c5].drop 5).take (Tryz.prog.cellsOf 24))=ys[5]? :=hfl 5 _ rfl
    rw [show Tryz.prog.cellsOf 3=1 by kernel_rfl] at f0 f2 f3
    rw [show Tryz.prog.cellsOf 9=1 by kernel_rfl] at f1 f4
    rw [show Tryz.prog.cellsOf 24=1 by kernel_rfl] at f5
    have hyl2:ys.length=6:=hyl
    match ys,hyl2 with
    | [y0,y1,y2,y3,y4,y5],_ =>
      simp only [List.drop_zero,List.take_succ_cons,List.take_zero,List.drop_succ_cons,List.getElem?_cons_zero,List.getElem?_cons_succ] at f0 f1 f2 f3 f4 f5
      obtain ⟨z0,rfl⟩:=open_i64 f0
      obtain ⟨z2,rfl⟩:=open_i64 f2
      obtain ⟨z3,rfl⟩:=open_i64 f3
      obtain ⟨s1,rfl,hs1⟩:=open_str f1 (fun k hk2=>hk k (by
       rw [hy]
       simp only [DataW.weights,Tryz.underlying31]
       exact DataW.weights_mem_each (j:=1) rfl rfl k hk2))
      obtain ⟨s4,rfl,hs4⟩:=open_str f4 (fun k hk2=>hk k (by
       rw [hy]
       simp only [DataW.weights,Tryz.underlying31]
       exact DataW.weights_mem_each (j:=4) rfl rfl k hk2))
      obtain ⟨L5,hv5,hl5,hs5⟩:=open_texts f5 (fun k hk2=>hk k (by
       rw [hy]
       simp only [DataW.weights,Tryz.underlying31]
       exact DataW.weights_mem_each (j:=5) rfl rfl k hk2))
      exact ⟨⟨z0,s1,z2,z3,s4,L5⟩,⟨hf 0 (by decide),hf 1 (by decide),hf 2 (by decide),hf 3 (by decide),hf 4 (by decide),_,hf 5 (by decide),hv5⟩,⟨hs1,hs4,hs5⟩,hl5⟩) h hw
theorem open_key {n:Nat} {cs:List Value} {y:DataW H×List MemPlace} (hl:cs.length=30) (h:DataW.trod enc Tryz.prog W base sp held n 73 cs=some y):∃k:Tx,k.length=30∧cs=keyC k:=by
 obtain ⟨xs,m,rfl,rfl,hxl,hxs,hat⟩:=DataW.trod_array Tryz.underlying73 h
 have hb:∀i,i<30→∃b:UInt8,cs[i]? = some (.int .u8 (b.toNat:Int)):=fun i hi=>by
  have h1:=hat i hi
  rw [show Tryz.prog.cellsOf 5=1 by kernel_rfl,Nat.mul_one] at h1
  have h2:(cs.drop i).take 1=[cs[i]'(by omega)]:=by
   rw [List.drop_eq_getElem_cons (by omega)]
   rfl
  rw [h2,List.getElem?_eq_getElem (by omega)] at h1
  obtain ⟨z,e1,_,e3⟩:=DataW.trod_int Tryz.underlying5 h1
  simp [Lit.wf,IntKind.min,IntKind.max,IntKind.signed,IntKind.bits] at e3
  refine ⟨UInt8.ofNat z.toNat,?_⟩
  rw [List.getElem?_eq_getElem (by omega)]
  have e4:cs[i]'(by omega)=.int .u8 z:=by simpa using e1
  rw [e4,UInt8.toNat_ofNat',show ((z.toNat % 2 ^ 8:Nat):Int)=z by omega]
 obtain ⟨k,hk,hr⟩:=pick hb
 refine ⟨k,hk,List.ext_getElem? fun i=> ?_⟩
 unfold keyC
 rw [List.getElem?_map]
 by_cases hi:i<30
 · have e:=List.getElem?_eq_getElem (l:=k) (i:=i) (by omega)
   rw [e,hr i _ e]
   rfl
 · rw [List.getElem?_eq_none (by omega),List.getElem?_eq_none (by omega)]
   rfl
set_option maxRecDepth 100000 in
theorem open_crys {fuel:Nat} {v:Value} {x:DataW H×List MemPlace} (h:DataW.trod enc Tryz.prog W base sp held fuel 26 [v]=some x) (hw:∀n∈x.1.weights Tryz.prog 26,n≤140737488351232) :
 ∃L,CrysV W W.heap.size v L∧L.length * 40≤140737488351232∧∀a∈L,a.key.length=30 :=
 open_rows (e:=75) Tryz.underlying26 (by kernel_rfl) (by decide) (by kernel_rfl) (fun n cs y f hl hf ht hk=>by
  obtain ⟨ys,n',_,hy,_,hyl,hfl⟩:=DataW.trod_struct Tryz.underlying75 ht
  have f0:DataW.trod enc Tryz.prog W base sp held n' 3 ((cs.drop 0).take (Tryz.prog.cellsOf 3))=ys[0]? :=hfl 0 _ rfl
  have f1:DataW.trod enc Tryz.prog W base sp held n' 73 ((cs.drop 1).take (Tryz.prog.cellsOf 73))=ys[1]? :=hfl 1 _ rfl
  rw [show Tryz.prog.cellsOf 3=1 by kernel_rfl] at f0
  rw [show Tryz.prog.cellsOf 73=30 by kernel_rfl] at f1
  have hyl2:ys.length=2:=hyl
  match ys,hyl2 with
  | [y0,y1],_ =>
    obtain ⟨c0,r,hcr⟩:∃c0 r,cs=c0 :: r:=by
     cases cs with
     | nil=>simp at hl
     | cons a b=>exact ⟨a,b,rfl⟩
    subst hcr
    simp only [List.drop_zero,List.take_succ_cons,List.take_zero,List.drop_succ_cons,List.getElem?_cons_zero,List.getElem?_cons_succ] at f0 f1
    have hrl:r.length=30:=by simpa using hl
    rw [List.take_of_length_le (by omega)] at f1
    obtain ⟨z,rfl⟩:=open_i64 f0
    obtain ⟨k,hk30,rfl⟩:=open_key hrl f1
    exact ⟨⟨z,k⟩,⟨hk30,fun j hj=>hf j hj⟩,hk30⟩) h hw
end
section
end
section
variable {H:Type} {enc:TypeId×Value→H} {W:World} {base:Nat} {sp:Nat→Bool} {held:Bool}
set_option maxRecDepth 100000 in
theorem open_media {fuel:Nat} {v:Value} {x:DataW H×List MemPlace} (hv:Value.okWide Tryz.prog W .any base 28 v) (h:DataW.trod enc Tryz.prog W 0 sp true fuel 28 v.cells.toList=some x) (hw:∀n∈x.1.weights Tryz.prog 28,n≤140737488351232) :
 ∃M m vC vE vR vS vY,v=.agg M∧MediaV W W.heap.size M m vC vE vR vS vY∧SizM m:=by
 obtain ⟨cs,rfl,hsz⟩:=okWide_struct Tryz.underlying28 hv
 rw [show Tryz.prog.cellsOf 28=11 by kernel_rfl] at hsz
 have h':DataW.trod enc Tryz.prog W 0 sp true fuel 28 cs.toList=some x:=h
 obtain ⟨ys,n,_,hx,_,hyl,hf⟩:=DataW.trod_struct Tryz.underlying28 h'
 obtain ⟨l⟩:=cs
 have hl:l.length=11:=by simpa using hsz
 have hy11:ys.length=11:=hyl
 have g0:DataW.trod enc Tryz.prog W 0 sp true n 3 ((l.drop 0).take (Tryz.prog.cellsOf 3))=ys[0]? :=hf 0 _ rfl
 have g1:DataW.trod enc Tryz.prog W 0 sp true n 3 ((l.drop 1).take (Tryz.prog.cellsOf 3))=ys[1]? :=hf 1 _ rfl
 have g2:DataW.trod enc Tryz.prog W 0 sp true n 9 ((l.drop 2).take (Tryz.prog.cellsOf 9))=ys[2]? :=hf 2 _ rfl
 have g3:DataW.trod enc Tryz.prog W 0 sp true n 3 ((l.drop 3).take (Tryz.prog.cellsOf 3))=ys[3]? :=hf 3 _ rfl
 have g4:DataW.trod enc Tryz.prog W 0 sp true n 22 ((l.drop 4).take (Tryz.prog.cellsOf 22))=ys[4]? :=hf 4 _ rfl
 have g5:DataW.trod enc Tryz.prog W 0 sp true n 23 ((l.drop 5).take (Tryz.prog.cellsOf 23))=ys[5]? :=hf 5 _ rfl
 have g6:DataW.trod enc Tryz.prog W 0 sp true n 24 ((l.drop 6).take (Tryz.prog.cellsOf 24))=ys[6]? :=hf 6 _ rfl
 have g7:DataW.trod enc Tryz.prog W 0 sp true n 4 ((l.drop 7).take (Tryz.prog.cellsOf 4))=ys[7]? :=hf 7 _ rfl
 have g8:DataW.trod enc Tryz.prog W 0 sp true n 25 ((l.drop 8).take (Tryz.prog.cellsOf 25))=ys[8]? :=hf 8 _ rfl
 have g9:DataW.trod enc Tryz.prog W 0 sp true n 26 ((l.drop 9).take (Tryz.prog.cellsOf 26))=ys[9]? :=hf 9 _ rfl
 have g10:DataW.trod enc Tryz.prog W 0 sp true n 3 ((l.drop 10).take (Tryz.prog.cellsOf 3))=ys[10]? :=hf 10 _ rfl
 rw [show Tryz.prog.cellsOf 3=1 by kernel_rfl] at g0 g1 g3 g10
 rw [show Tryz.prog.cellsOf 9=1 by kernel_rfl] at g2
 rw [show Tryz.prog.cellsOf 22=1 by kernel_rfl] at g4
 rw [show Tryz.prog.cellsOf 23=1 by kernel_rfl] at g5
 rw [show Tryz.prog.cellsOf 24=1 by kernel_rfl] at g6
 rw [show Tryz.prog.cellsOf 4=1 by kernel_rfl] at g7
 rw [show Tryz.prog.cellsOf 25=1 by kernel_rfl] at g8
 rw [show Tryz.prog.cellsOf 26=1 by kernel_rfl] at g9
 clear hf hyl hv h h'
 match l,hl with
 | [c0,c1,c2,c3,c4,c5,c6,c7,c8,c9,c10],_ =>
   match ys,hy11 with
   | [y0,y1,y2,y3,y4,y5,y6,y7,y8,y9,y10],_ =>
     simp only [List.drop_zero,List.take_succ_cons,List.take_zero,List.drop_succ_cons,List.getElem?_cons_zero,List.getElem?_cons_succ] at g0 g1 g2 g3 g4 g5 g6 g7 g8 g9 g10
     obtain ⟨z0,rfl⟩:=open_i64 g0
     obtain ⟨z1,rfl⟩:=open_i64 g1
     obtain ⟨z3,rfl⟩:=open_i64 g3
     obtain ⟨z10,rfl⟩:=open_i64 g10
     obtain ⟨b7,e7,_⟩:=DataW.trod_bool Tryz.underlying4 g7
     simp at e7
     subst e7
     obtain ⟨s2,rfl,hs2⟩:=open_str g2 (fun k hk=>hw k (by
      rw [hx]
      simp only [DataW.weights,Tryz.underlying28]
      exact DataW.weights_mem_each (j:=2) rfl rfl k hk))
     obtain ⟨L4,v4,l4,q4⟩:=open_codecs g4 (fun k hk=>hw k (by
      rw [hx]
      simp only [DataW.weights,Tryz.underlying28]
      exact DataW.weights_mem_each (j:=4) rfl rfl k hk))
     obtain ⟨L5,v5,l5,q5⟩:=open_exts g5 (fun k hk=>hw k (by
      rw [hx]
      simp only [DataW.weights,Tryz.underlying28]
      exact DataW.weights_mem_each (j:=5) rfl rfl k hk))
     obtain ⟨L6,v6,l6,q6⟩:=open_texts g6 (fun k hk=>hw k (by
      rw [hx]
      simp only [DataW.weights,Tryz.underlying28]
      exact DataW.weights_mem_each (j:=6) rfl rfl k hk))
     obtain ⟨L8,v8,l8,q8⟩:=open_u32s g8 (fun k hk=>hw k (by
      rw [hx]
      simp only [DataW.weights,Tryz.underlying28]
      exact DataW.weights_mem_each (j:=8) rfl rfl k hk))
     obtain ⟨L9,v9,l9,q9⟩:=open_crys g9 (fun k hk=>hw k (by
      rw [hx]
      simp only [DataW.weights,Tryz.underlying28]
      exact DataW.weights_mem_each (j:=9) rfl rfl k hk))
     refine ⟨_,⟨z0,z1,s2,z3,L4,L5,L6,b7,L8,L9,z10⟩,_,_,_,_,_,rfl,⟨rfl,v4,v5,v6,v8,v9⟩,⟨?_,fun c hc=> ?_,fun c hc=> ?_,fun c hc=> ?_,fun c hc=> ?_,⟨q8,q9⟩,?_⟩⟩
     · show s2.size≤_
       omega
     · obtain ⟨⟨h1,h2,h3⟩,_⟩:=q4 c hc
       exact ⟨by omega,by omega,fun f hf=>by have:=h3 f hf;omega⟩
     · have:=(q4 c hc).2
       omega
     · have:=q5 c hc
       omega
     · have:=q6 c hc
       omega
     · show L4.length≤_∧L5.length≤_∧L6.length≤_∧L8.length≤_∧L9.length≤_
       omega
end
end Go.Proofs.YtgnpckelbokniaaGreatDoor
namespace Go.Proofs.YtgnpckelbokniaaGreatDoor
open Go.RowKit Go.ChangeShapes Go.WideShapes Go.ChangeAt
set_option linter.unusedVariables false
set_option linter.unusedSimpArgs false
theorem laid_at {P:Program} {W:World}:∀{laid:List (String×DataW Unit)} {ps:List MemPlace},DataW.LaidVars P W laid ps→∀{n:String} {d:DataW Unit},(n,d)∈laid →
 ∃g t cs fuel p,P.globalNamed n=some g∧(P.globals[g]?).map (·.type)=some t∧W.var? P n=some cs∧DataW.trod (fun _=>()) P W 0 (fun _=>true) false fuel t cs.toList=some (d,p)
 | [],_,_,_,_,hm=>by cases hm
 | (n0,d0) :: r,ps,h,n,d,hm=>by
   obtain ⟨g,t,cs,fuel,p,q,h1,h2,h3,h4,h5,_⟩:=h
   rcases List.mem_cons.1 hm with e | hm
   · injection e with e1 e2
     subst e1 e2
     exact ⟨g,t,cs,fuel,p,h1,h2,h3,h4⟩
   · exact laid_at h5 hm
set_option maxRecDepth 100000 in
theorem laid_tab {W:World} {laid:List (String×DataW Unit)} (h:laidMet Tryz.prog laid W) {name:String} {k:IntKind} {zs:List Int} (hm:(name,Lib.tabData k zs)∈laid) {g:Nat} {t e:TypeId} {n:Nat}
 (hg:Tryz.prog.globalNamed name=some g) (hty:(Tryz.prog.globals[g]?).map (·.type)=some t) (ht:Tryz.prog.underlying t=some (.array n e)) (he:Tryz.prog.underlying e=some (.int k)) (hce:Tryz.prog.cellsOf e=1) (hct:Tryz.prog.cellsOf t=n):Lib.TabIs Tryz.prog W name k zs:=by
 obtain ⟨ps,hv,_⟩:=h
 obtain ⟨g',t',cs,fuel,p,hg',ht',hvar,hd⟩:=laid_at hv hm
 obtain rfl:=Option.some.inj (hg.symm.trans hg')
 obtain rfl:=Option.some.inj (hty.symm.trans ht')
 unfold Lib.TabIs
 rw [hvar,←Lib.cells_of_tab ht he hce hct hd]
set_option maxRecDepth 100000 in
theorem laid_strs {W:World} {laid:List (String×DataW Unit)} (h:laidMet Tryz.prog laid W) {name:String} {ss:List Tx} (hm:(name,(.agg (ss.map fun s=>.lit (.string s)):DataW Unit))∈laid) {g:Nat} {t:TypeId} {n:Nat}
 (hg:Tryz.prog.globalNamed name=some g) (hty:(Tryz.prog.globals[g]?).map (·.type)=some t) (ht:Tryz.prog.underlying t=some (.array n 9)) (hn:ss.length=n) (i:Nat) (s:Tx) (hi:ss[i]? = some s):W.cell? ⟨g,i,none⟩=some (.string (bs s)):=by
 obtain ⟨ps,hv,_⟩:=h
 obtain ⟨g',t',cs,fuel,p,hg',ht',hvar,hd⟩:=laid_at hv hm
 obtain rfl:=Option.some.inj (hg.symm.trans hg')
 obtain rfl:=Option.some.inj (hty.symm.trans ht')
 obtain ⟨xs,m,_,hx,hcl,hxl,hat⟩:=DataW.trod_array ht hd
 have hil:i<n:=by rw [←hn];exact (List.getElem?_eq_some_iff.1 hi).1
 have h1:=hat i hil
 rw [show Tryz.prog.cellsOf 9=1 by kernel_rfl,Nat.mul_one] at h1
 have hxe:xs[i]? = some (xs[i]'(by omega)):=List.getElem?_eq_getElem (by omega)
 rw [hxe] at h1
 obtain ⟨u,e1,e2,_⟩:=DataW.trod_string Tryz.underlying9 h1
 have hag:(ss.map fun s=>(.lit (.string s):DataW Unit))=xs.map (·.1):=by
  injection hx with hx1 _
  injection hx1
 have h3:=congrArg (fun l=>l[i]?) hag
 simp only [List.getElem?_map,hi,hxe,Option.map_some] at h3
 have h4:s=u.data.toList:=by
  have h5:=Option.some.inj h3
  rw [e2] at h5
  injection h5 with h6
  injection h6
 rw [World.var?_cell hg hvar i]
 have h7:=congrArg (fun l=>l[0]?) e1
 simp only [List.getElem?_take,List.getElem?_drop,List.getElem?_cons_zero] at h7
 simp at h7
 rw [h7,h4]
 rfl
set_option maxRecDepth 100000 in
theorem env_of {W:World} {laid:List (String×DataW Unit)} (h:laidMet Tryz.prog laid W)
 (h1 : ("internal/strconv.uint64pow10", Lib.tabData .u64 Lib.pow10Tab) ∈ laid)
 (h2 : ("rostrum/attr.kinds", (.agg ([[], wAudio, wVideo, wApplication].map fun s => .lit (.string s)) : DataW Unit)) ∈ laid)
 (h3 : ("rostrum/attr.directions", (.agg ([nInactive, nSendonly, nRecvonly, nSendrecv].map fun s => .lit (.string s)) : DataW Unit)) ∈ laid) : Env W := by
 have hk:=laid_strs h h2 (g:=1) (t:=107) (n:=4) (by kernel_rfl) (by kernel_rfl) Tryz.underlying107 rfl
 have hd:=laid_strs h h3 (g:=0) (t:=107) (n:=4) (by kernel_rfl) (by kernel_rfl) Tryz.underlying107 rfl
 refine ⟨laid_tab h h1 (g:=2) (t:=221) (e:=42) (n:=20) (by kernel_rfl) (by kernel_rfl) Tryz.underlying221 Tryz.underlying42 (by kernel_rfl) (by kernel_rfl),fun j hj=> ?_,fun j h1 hj=> ?_,hk 0 _ rfl⟩
 · have:j=0∨j=1∨j=2∨j=3:=by omega
   rcases this with rfl | rfl | rfl | rfl
   · exact hd 0 _ rfl
   · exact hd 1 _ rfl
   · exact hd 2 _ rfl
   · exact hd 3 _ rfl
 · have:j=1∨j=2∨j=3:=by omega
   rcases this with rfl | rfl | rfl
   · exact hk 1 _ rfl
   · exact hk 2 _ rfl
   · exact hk 3 _ rfl
set_option maxRecDepth 100000 in
theorem seven_of {W : World} {laid : List (String × DataW Unit)} (h : laidMet Tryz.prog laid W) {zs : List Int} (hz : 0 < zs.length) (h1 : ("math/bits.deBruijn32tab", Lib.tabData .u8 zs) ∈ laid) : 7 ≤ W.heap.size := by
 have ht:=laid_tab h h1 (g:=6) (t:=246) (e:=5) (n:=32) (by kernel_rfl) (by kernel_rfl) Tryz.underlying246 Tryz.underlying5 (by kernel_rfl) (by kernel_rfl)
 exact block_lt_of_cell (ht.cell (g:=6) (by kernel_rfl) 0 hz)
theorem laid_err {W:World} {laid:List (String×DataW Unit)} (h:laidMet Tryz.prog laid W) {name nm:String} {d:DataW Unit} (hm:(name,.iface nm d)∈laid) {g:Nat} {t:TypeId} {ms:Array (String×TypeId)}
 (hg:Tryz.prog.globalNamed name=some g) (hty:(Tryz.prog.globals[g]?).map (·.type)=some t) (hi:Tryz.prog.underlying t=some (.interface ms)):∃ev,W.cell? ⟨g,0,none⟩=some ev∧(ev=.nilIface∨∃te pe,ev=.iface te pe):=by
 obtain ⟨ps,hv,_⟩:=h
 obtain ⟨g',t',cs,fuel,p,hg',ht',hvar,hd⟩:=laid_at hv hm
 obtain rfl:=Option.some.inj (hg.symm.trans hg')
 obtain rfl:=Option.some.inj (hty.symm.trans ht')
 obtain ⟨_,u,v,hcs,_,_⟩:=iface_of_trod hi hd
 refine ⟨.iface u v,?_,.inr ⟨u,v,rfl⟩⟩
 rw [World.var?_cell hg hvar 0,←Array.getElem?_toList,hcs]
 rfl
theorem envR_of {W:World} {laid:List (String×DataW Unit)} (h:laidMet Tryz.prog laid W) (hE:Env W) {n1 n2:String} {d1 d2:DataW Unit}
 (h1 : ("strconv.ErrSyntax", .iface n1 d1) ∈ laid) (h2 : ("strconv.ErrRange", .iface n2 d2) ∈ laid) : EnvR W :=
 ⟨hE,laid_err h h1 (t:=174) (by kernel_rfl) (by kernel_rfl) Tryz.underlying174,laid_err h h2 (t:=174) (by kernel_rfl) (by kernel_rfl) Tryz.underlying174⟩
end Go.Proofs.YtgnpckelbokniaaGreatDoor
