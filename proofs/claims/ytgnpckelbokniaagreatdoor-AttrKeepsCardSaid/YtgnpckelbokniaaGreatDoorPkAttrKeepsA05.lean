import Derived.Test.YtgnpckelbokniaaGreatDoorPkAttrKeepsA04
namespace Go.Proofs.YtgnpckelbokniaaGreatDoor
open Go.RowKit
set_option linter.unusedVariables false
set_option linter.unusedSimpArgs false
def WriteO (E:TypeId) (w:World) (m:MediaS) (e:Ending) (w':World):Prop :=
 ∃P:Array Value,e=.returned (.tuple #[.agg P,.int .i64 (if mayM m=true then 0 else 1)])∧Below w.heap.size w w' ∧
  (mayM m=true→∃v,P=#[.string (bs (lineM m)),.string (bs wConn),v]∧Own w' w.heap.size E 2 v ((attrsM m).map acell))∧(mayM m=false→P=#[.string ⟨#[]⟩,.string ⟨#[]⟩,.slice none 0 0])
theorem WriteO.no {E:TypeId} {w w':World} {m:MediaS} (h:mayM m=false) (hb:Below w.heap.size w w'):WriteO E w m (.returned (.tuple #[.agg #[.string ⟨#[]⟩,.string ⟨#[]⟩,.slice none 0 0],.int .i64 1])) w' :=
 ⟨_,by rw [if_neg (by rw [h];decide)],hb,fun e=>(by rw [h] at e;cases e),fun _=>rfl⟩
theorem WriteO.yes {E:TypeId} {w w':World} {m:MediaS} {v:Value} {s:ByteArray} (h:mayM m=true) (hb:Below w.heap.size w w') (hs:s=bs (lineM m)) (ho:Own w' w.heap.size E 2 v ((attrsM m).map acell)) :
 WriteO E w m (.returned (.tuple #[.agg #[.string s,.string (bs wConn),v],.int .i64 0])) w' :=
 ⟨_,by rw [if_pos h],hb,fun _=>⟨v,by rw [hs],ho⟩,fun e=>(by rw [h] at e;cases e)⟩
theorem mayM_no {m:MediaS} (h:goodM m=false):mayM m=false:=by unfold mayM;rw [h];rfl
set_option maxHeartbeats 6400000 in
set_option maxRecDepth 100000 in
theorem write_any (M:Array Value) (m:MediaS) (vC vE vR vS vY:Value) (w:World) (h:MediaV w w.heap.size M m vC vE vR vS vY) (hz:SizM m) (hE:Env w) (h7:7≤w.heap.size) :
 Calls Tryz.prog 8 #[.agg M] w (WriteO 65 w m):=by
 have hb0:Below w.heap.size w ((w.alloc (.cells M 28)).alloc (.cells #[.string ⟨#[]⟩,.string ⟨#[]⟩,.slice none 0 0] 34)):=two_new _ _ _ _
 have hw:=(Whole.new w 28 M).alloc (.cells #[.string ⟨#[]⟩,.string ⟨#[]⟩,.slice none 0 0] 34)
 have hr:=Whole.new2 w (.cells M 28) 34 #[.string ⟨#[]⟩,.string ⟨#[]⟩,.slice none 0 0]
 have HSZ:=Lib.hid h.size
 have H0:=Lib.hid (And.intro hb0 (And.intro hw hr))
 have HM:=Lib.hid h
 have HZ:=Lib.hid hz
 have HEN:=Lib.hid hE
 clear h hz hE hb0 hw hr
 obtain ⟨N,hN⟩:∃N,w.heap.size=N:=⟨_,rfl⟩
 have HNW:Hid (w.heap.size=N):=Lib.hid hN
 have H7:Hid (7≤N):=Lib.hid (by omega)
 rw [hN] at H0
 clear hN h7
 go_enter Tryz.func8,Tryz.ntmps8
 go_upto_region 1 with fail
 simp only [HNW.out]
 generalize (w.alloc (.cells M 28)).alloc (.cells #[.string ⟨#[]⟩,.string ⟨#[]⟩,.slice none 0 0] 34)=W0 at *
 have HU:Hid (∀W,Below N w W→MediaV W W.heap.size M m vC vE vR vS vY∧Env W∧7≤W.heap.size):=Lib.hid fun W hW=>by
  rw [←HNW.out] at hW
  have h1:=hW.size
  exact ⟨HM.out.under hW,HEN.out.under hW,by have:=H7.out;rw [←HNW.out] at this;omega⟩
 have HGO:Hid (Calls Tryz.prog 19 #[.agg M] W0 fun e w'=>e=.returned (.bool (goodM m))∧Below W0.heap.size W0 w'):=Lib.hid (good_any M m vC vE vR vS vY W0 (HU.out _ H0.out.1).1 HZ.out)
 have HST:Hid (∀W W',Below N w W∧Whole W N 28 M∧Whole W (N+1) 34 #[.string ⟨#[]⟩,.string ⟨#[]⟩,.slice none 0 0]→Below W.heap.size W W'→Below N w W'∧Whole W' N 28 M∧Whole W' (N+1) 34 #[.string ⟨#[]⟩,.string ⟨#[]⟩,.slice none 0 0]):=Lib.hid fun W W' h hb=>⟨h.1.trans (hb.mono (by rw [←HNW.out];have:=h.1.size;rw [HNW.out] at this ⊢;exact this)),h.2.1.under hb,h.2.2.under hb⟩
 cases hg:goodM m with
 | false =>
   have HNO:=Lib.hid (mayM_no hg)
   rw [hg] at HGO
   clear hg
   go_wp2_with (first | ((with_reducible refine wpList_load_all ?_ 28 (.tmp 1) ?_ H0.out.2.1 ?_ Tryz.sizeMedia HSZ.out Tryz.underlying28 ?_ ?_);(with_reducible rfl);(with_reducible rfl);rfl;rfl) | (go_at_call 19;(with_reducible refine HGO.out.mono ?_);rintro e w1 ⟨rfl,hb1⟩;have H1:=Lib.hid (HST.out _ _ H0.out hb1);clear hb1) | ((with_reducible refine wpList_storeS #[.string ⟨#[]⟩,.string ⟨#[]⟩,.slice none 0 0] ?_ 34 (.tmp 2) (.tmp 8) ?_ ?_ ?_ H1.out.2.2 Tryz.sizeSPart ?_ ?_ ?_ ?_);(with_reducible rfl);(with_reducible rfl);rfl;rfl;rfl;rfl;rfl))
   refine bodyPost_ret (v:=.tuple #[.agg #[.string ⟨#[]⟩,.string ⟨#[]⟩,.slice none 0 0],.int .i64 1]) ?_ rfl ?_
   · exact ret_struct2 (p:=2) (s:=3) rfl rfl (H1.out.2.2.row _) Tryz.underlying34 rfl Tryz.sizeSPart rfl
   · exact WriteO.no HNO.out (by rw [HNW.out];exact below_row H1.out.1 (by omega) _)
 | true =>
   obtain ⟨hp,hmd,⟨hd0,hd3⟩,hk,hs⟩:=goodM_parts hg
   have HK:Hid ((1≤m.kind∧m.kind≤3)∧(0≤m.port∧m.port≤9)∧∀c∈m.codecs,0≤c.type∧c.type≤127):=Lib.hid ⟨by omega,by omega,fun c hc=>(goodC_parts (hs.codecs c hc)).1⟩
   have HG:=Lib.hid hg
   have HAT:Hid (∀W,Below N w W→Calls Tryz.prog 20 #[.agg M] W fun e w'=>∃v,e=.returned v∧AtO w' W.heap.size v (attrsM m)∧Below W.heap.size W w'):=Lib.hid fun W hW=>attributes_any M m vC vE vR vS vY W (HU.out W hW).1 HZ.out (HU.out W hW).2.1 (HU.out W hW).2.2 HG.out
   have HLI:Hid (∀W,Below N w W→Calls Tryz.prog 21 #[.agg M] W fun e w'=>e=.returned (.string (bs (lineM m)))∧Below W.heap.size W w'):=Lib.hid fun W hW=>line_any M m vC vE vR vS vY W (HU.out W hW).1 HZ.out (HU.out W hW).2.1 HK.out.1 HK.out.2.1 HK.out.2.2
   rw [hg] at HGO
   clear hg hp hmd hd0 hd3 hk hs HK
   go_upto_region 3 with (first | ((with_reducible refine wpList_load_all ?_ 28 (.tmp 1) ?_ H0.out.2.1 ?_ Tryz.sizeMedia HSZ.out Tryz.underlying28 ?_ ?_);(with_reducible rfl);(with_reducible rfl);rfl;rfl) | (go_at_call 19;(with_reducible refine HGO.out.mono ?_);rintro e w1 ⟨rfl,hb1⟩;have H1:=Lib.hid (HST.out _ _ H0.out hb1);clear hb1))
   go_upto_region 4 with (first | ((with_reducible refine wpList_load_all ?_ 28 (.tmp 1) ?_ H1.out.2.1 ?_ Tryz.sizeMedia HSZ.out Tryz.underlying28 ?_ ?_);(with_reducible rfl);(with_reducible rfl);rfl;rfl) | (go_at_call 20;(with_reducible refine (HAT.out _ H1.out.1).mono ?_);rintro e w2 ⟨v2,rfl,ho2,hb2⟩;have H2:=Lib.hid (HST.out _ _ H1.out hb2);have HO2:Hid (AtO w2 N v2 (attrsM m)):=Lib.hid (Own.base_le ho2 (by have:=H1.out.1.size;rw [HNW.out] at this;exact this));clear hb2 ho2))
   obtain ⟨A2,c2,hv2,-⟩:=Own.form HO2.out
   rw [List.length_map] at hv2
   obtain ⟨n,hn⟩:∃n,(attrsM m).length=n:=⟨_,rfl⟩
   rw [hn] at hv2
   subst hv2
   by_cases h64:64<n
   · have HNO:Hid (mayM m=false):=Lib.hid (by unfold mayM;rw [HG.out,hn];simp;omega)
     have h64:(64:Int)<(n:Int):=by omega
     clear hn
     go_wp2_with ((with_reducible refine wpList_storeS #[.string ⟨#[]⟩,.string ⟨#[]⟩,.slice none 0 0] ?_ 34 (.tmp 2) (.tmp 14) ?_ ?_ ?_ H2.out.2.2 Tryz.sizeSPart ?_ ?_ ?_ ?_);(with_reducible rfl);(with_reducible rfl);rfl;rfl;rfl;rfl;rfl)
     refine bodyPost_ret (v:=.tuple #[.agg #[.string ⟨#[]⟩,.string ⟨#[]⟩,.slice none 0 0],.int .i64 1]) ?_ rfl ?_
     · exact ret_struct2 (p:=2) (s:=3) rfl rfl (H2.out.2.2.row _) Tryz.underlying34 rfl Tryz.sizeSPart rfl
     · exact WriteO.no HNO.out (by rw [HNW.out];exact below_row H2.out.1 (by omega) _)
   · have HYE:Hid (mayM m=true):=Lib.hid (by unfold mayM;rw [HG.out,hn];simp;omega)
     have h64:(n:Int)≤(64:Int):=by omega
     obtain ⟨sl,hsl⟩:∃s,bs (lineM m)=s:=⟨_,rfl⟩
     have HSL:=Lib.hid hsl
     rw [hsl] at HLI
     clear hn hsl
     go_wp2_with (first | ((with_reducible refine wpList_load_all ?_ 28 (.tmp 1) ?_ H2.out.2.1 ?_ Tryz.sizeMedia HSZ.out Tryz.underlying28 ?_ ?_);(with_reducible rfl);(with_reducible rfl);rfl;rfl) | (go_at_call 21;(with_reducible refine (HLI.out _ H2.out.1).mono ?_);rintro e w3 ⟨rfl,hb3⟩;have H3:=Lib.hid (HST.out _ _ H2.out hb3);have HO3:=Lib.hid (HO2.out.under hb3);clear hb3) | ((with_reducible refine wpList_storeS #[.string sl,.string ⟨#[73,78,32,73,80,52,32,48,46,48,46,48,46,48]⟩,.slice A2 n c2] ?_ 34 (.tmp 2) (.tmp 18) ?_ ?_ ?_ H3.out.2.2 Tryz.sizeSPart ?_ ?_ ?_ ?_);(with_reducible rfl);(with_reducible rfl);rfl;rfl;rfl;rfl;rfl))
     refine bodyPost_ret (v:=.tuple #[.agg #[.string sl,.string ⟨#[73,78,32,73,80,52,32,48,46,48,46,48,46,48]⟩,.slice A2 n c2],.int .i64 0]) ?_ rfl ?_
     · exact ret_struct2 (p:=2) (s:=3) rfl rfl (H3.out.2.2.row _) Tryz.underlying34 rfl Tryz.sizeSPart rfl
     · exact WriteO.yes HYE.out (by rw [HNW.out];exact below_row H3.out.1 (by omega) _) HSL.out.symm (by rw [HNW.out];exact Own.farRow HO3.out (Own.apart HO3.out H3.out.2.2 (by decide)) _)
end Go.Proofs.YtgnpckelbokniaaGreatDoor
namespace Go.Proofs.YtgnpckelbokniaaGreatDoor
open Go.RowKit Go.Shelf
set_option linter.unusedVariables false
set_option linter.unusedSimpArgs false
def Bs (w:World) (B:Nat) (A:Option Addr) (n:Nat) (xs:List Int):Prop :=
 xs.length=n∧(0<n→∃ad,A=some ad∧ad.block<B∧∀i,i<n→w.cell? (ad.add i)=some (.int .u8 (xs.getD i 0)))
section
variable {w w':World} {B:Nat} {A:Option Addr} {n:Nat} {xs:List Int}
theorem Bs.below (h:Bs w B A n xs) (hb:Below B w w'):Bs w' B A n xs :=
 ⟨h.1,fun hn=>by
  obtain ⟨ad,h1,h2,h3⟩:=h.2 hn
  exact ⟨ad,h1,h2,fun i hi=>(hb.cell (p:=ad.add i) (by rw [add_block];exact h2)).trans (h3 i hi)⟩⟩
theorem Bs.more {B':Nat} (h:Bs w B A n xs) (hB:B≤B'):Bs w B' A n xs :=
 ⟨h.1,fun hn=>by
  obtain ⟨ad,h1,h2,h3⟩:=h.2 hn
  exact ⟨ad,h1,by omega,h3⟩⟩
end
def u8s (xs:List Int):List Value:=xs.map (Value.int .u8)
@[simp] theorem u8s_length (xs:List Int):(u8s xs).length=xs.length:=by simp [u8s]
def Own8 (w:World) (base:Nat) (v:Value) (xs:List Int):Prop:=w.ownsRow base 5 1 v xs.length (u8s xs)
section
variable {w w':World} {base:Nat} {v:Value} {xs:List Int}
theorem Own8.nil (w:World) (base:Nat):Own8 w base (.slice none 0 0) []:=World.ownsRow_nil w base 5 1
theorem Own8.lt (h:Own8 w base v xs) {k:Nat} (hk:v.ownBlock=some k):base≤k∧k<w.heap.size:=World.ownsRow.lt h k hk
theorem Own8.grown {row:Option Nat} (h:Own8 w base v xs) (hg:w.grownBy w' row) (hne:v.ownBlock=none∨v.ownBlock≠row):Own8 w' base v xs:=World.ownsRow.kept h hg hne
theorem Own8.alloc (h:Own8 w base v xs) (o:Obj):Own8 (w.alloc o) base v xs:=World.ownsRow.alloc h o
theorem Own8.under (h:Own8 w base v xs) (hb:Below w.heap.size w w'):Own8 w' base v xs:=by
 refine ⟨h.1,?_⟩
 rcases h.2 with h0 | ⟨g,cap,cur,h1,h2,h3,h4⟩
 · exact .inl h0
 · exact .inr ⟨g,cap,cur,h1,h2,(hb.block g (Array.getElem?_eq_some_iff.1 h3).1).trans h3,h4⟩
theorem Own8.drewN (h:Own8 w base v xs) (n:Nat):Own8 (w.drewN n) base v xs:=h
theorem Own8.drew (h:Own8 w base v xs):Own8 w.drew base v xs:=h
theorem Own8.form (h:Own8 w base v xs):∃A c,v=.slice A xs.length c∧xs.length≤c∧c≤maxLen∧(A=none→c=0)∧Bs w w.heap.size A xs.length xs:=by
 rcases h.2 with ⟨rfl,h0⟩ | ⟨g,cap,cur,rfl,h2,h3,h4,h5,h6,h7⟩
 · exact ⟨none,0,by rw [h0],by omega,Nat.zero_le _,fun _=>rfl,rfl,fun hn=>by omega⟩
 · refine ⟨_,cap,rfl,h4,h5,(fun e=>by cases e),rfl,fun hn=>⟨_,rfl,(Array.getElem?_eq_some_iff.1 h3).1,fun i hi=> ?_⟩⟩
   have:=World.ownsRow.cells (g:=g) h rfl i (.int .u8 (xs.getD i 0)) (by simp [u8s,List.getD,hi])
   exact this
theorem Own8.bs {A:Option Addr} {c:Nat} (h:Own8 w base (.slice A xs.length c) xs):Bs w w.heap.size A xs.length xs:=by
 obtain ⟨A',c',hv,_,_,_,hb⟩:=h.form
 cases hv
 exact hb
theorem Own8.at_ (h:Own8 w base v xs) {i:Nat} (hi:i<xs.length):∃g c,v=.slice (some ⟨g,0,none⟩) xs.length c∧base≤g∧g<w.heap.size∧w.cell? ⟨g,i,none⟩=some (.int .u8 (xs.getD i 0))∧w.frozen? ⟨g,i,none⟩=false:=by
 obtain ⟨A,c,rfl,_,_,_,hb⟩:=h.form
 rcases h.2 with ⟨hv,h0⟩ | ⟨g,cap,cur,hv,h2,h3,h4⟩
 · omega
 · cases hv
   refine ⟨g,c,rfl,h2,(Array.getElem?_eq_some_iff.1 h3).1,?_,?_⟩
   · obtain ⟨ad,e,_,hc⟩:=hb.2 (by omega)
     cases e
     have:=hc i hi
     rwa [Addr.add_lit,Nat.zero_add] at this
   · simp [World.frozen?,h3]
end
theorem Bs.laid (w:World) (xs:List Int) (t:TypeId):Bs (w.alloc (.cells (u8s xs).toArray t)) (w.heap.size+1) (some ⟨w.heap.size,0,none⟩) xs.length xs :=
 ⟨rfl,fun hn=>⟨_,rfl,Nat.lt_succ_self _,fun i hi=>by
  rw [Addr.add_lit,(Whole.new w t _).cell]
  simp [u8s,List.getD,hi]⟩⟩
theorem Own8.apart {w:World} {base:Nat} {v:Value} {xs:List Int} (h:Own8 w base v xs) {g:Nat} {t:TypeId} {cs:Array Value} (hg:Whole w g t cs) (he:5≠t):v.ownBlock≠some g:=fun e2=>by
 rcases h.2 with ⟨rfl,_⟩ | ⟨g',cap,cur,rfl,_,h3,_⟩
 · cases e2
 · have e3:g'=g:=by simpa [Value.ownBlock] using e2
   subst e3
   have e4:some (Obj.cells cur 5 (0,0))=some (Obj.cells cs t (0,0)):=Eq.trans (Eq.symm h3) hg
   injection e4 with e5
   injection e5 with _ e6
   exact he e6
theorem Own8.below {w w':World} {base:Nat} {v:Value} {xs:List Int} (h:Own8 w base v xs) {w0:World} (hb:Below base w0 w) (hB:base≤w.heap.size) (hg:w.grownBy w' v.ownBlock):Below base w0 w' :=
 hb.grown hg hB (fun j hj=>(h.lt hj).1)
end Go.Proofs.YtgnpckelbokniaaGreatDoor
namespace Go.Proofs.YtgnpckelbokniaaGreatDoor
open Go.RowKit
set_option linter.unusedVariables false
set_option linter.unusedSimpArgs false
def AtR (w:World) (base:Nat) (v:Value) (L:List AttrS):Prop:=Own w base 85 2 v (L.map acell)
theorem AtR.under {w w':World} {base:Nat} {v:Value} {L:List AttrS} (h:AtR w base v L) (hb:Below w.heap.size w w'):AtR w' base v L:=Own.under h hb
theorem AtR.base {w:World} {base:Nat} {v:Value} {L:List AttrS} (h:AtR w base v L):∀k,v.ownBlock=some k→base≤k:=fun k hk=>(Own.lt h hk).1
theorem AtR.form {w:World} {base:Nat} {v:Value} {L:List AttrS} (h:AtR w base v L):∃A n c,v=.slice A n c:=by
 obtain ⟨A,c,e,-⟩:=Own.form h
 exact ⟨A,_,c,e⟩
section
variable {ops:Array Oper} {rest:List Oper} {o:Oper} {a:Act} {Q:Exit→Act→World→Prop} {K:Act→World→Prop} {w:World} {base:Nat} {v:Value} {L:List AttrS} {n val:ByteArray} {c:Nat}
end
theorem AtR.two {w:World} {base:Nat} (hb:base≤w.heap.size) (a b c d:ByteArray):AtR (w.alloc (.cells #[.string a,.string b,.string c,.string d] 85)) base (.slice (some ⟨w.heap.size,0,none⟩) 2 2) [⟨a,b⟩,⟨c,d⟩] :=
 ⟨World.ownsRow_lit w _ 2 hb (by decide) rfl,fun r hr=>by simp [acell] at hr;rcases hr with rfl | rfl <;> rfl⟩
abbrev zPart:Array Value:=#[.string ⟨#[]⟩,.string ⟨#[]⟩,.slice none 0 0]
abbrev connB:ByteArray:=⟨#[73,78,32,73,80,52,32,48,46,48,46,48,46,48]⟩
structure WB (w0:World) (M:Array Value) (pb:Nat) (ln:ByteArray) (w:World):Prop where
 low:Below w0.heap.size w0 w
 box:Whole w w0.heap.size 28 M
 res:Whole w (w0.heap.size+1) 88 zPart
 prt:Whole w pb 88 #[.string ln,.string connB,.slice none 0 0]
 hpb:w0.heap.size≤pb
 hne:w0.heap.size+1≠pb
section
variable {w0 w w':World} {M:Array Value} {pb:Nat} {ln:ByteArray}
theorem WB.under (h:WB w0 M pb ln w) (hb:Below w.heap.size w w'):WB w0 M pb ln w':=⟨h.low.trans (hb.mono h.low.size),h.box.under hb,h.res.under hb,h.prt.under hb,h.hpb,h.hne⟩
theorem WB.drew (h:WB w0 M pb ln w):WB w0 M pb ln w.drew:=⟨h.low.drew,h.box,h.res,h.prt,h.hpb,h.hne⟩
theorem WB.alloc (h:WB w0 M pb ln w) (o:Obj):WB w0 M pb ln (w.alloc o):=h.under ((Below.refl _ w).alloc (Nat.le_refl _) o)
theorem WB.add {v v':Value} {L:List AttrS} (h:WB w0 M pb ln w) (ho:AtR w w0.heap.size v L) (hg:Grew w v w' v'):WB w0 M pb ln w' :=
 ⟨h.low.trans (hg.below ho.base h.low.size),hg.whole h.box (Own.apart ho h.box (by decide)),hg.whole h.res (Own.apart ho h.res (by decide)),hg.whole h.prt (Own.apart ho h.prt (by decide)),h.hpb,h.hne⟩
theorem WB.line (h:WB w0 M pb ln w) (s:ByteArray):WB w0 M pb s (w.setCell ⟨pb,0,none⟩ (.string s)) :=
 ⟨h.low.setCell (p:=⟨pb,0,none⟩) h.hpb _,h.box.far (p:=⟨pb,0,none⟩) (h.box.ne h.prt (by decide)) _,h.res.far (p:=⟨pb,0,none⟩) h.hne _,h.prt.set 0 _,h.hpb,h.hne⟩
theorem AtR.line {v:Value} {L:List AttrS} (h:WB w0 M pb ln w) (ho:AtR w w0.heap.size v L) (u:Value) (i:Nat):AtR (w.setCell ⟨pb,i,none⟩ u) w0.heap.size v L:=Own.far (p:=⟨pb,i,none⟩) ho (Own.apart ho h.prt (by decide)) u
end
def ItR (w0:World) (M:Array Value) (pb:Nat) (ln:ByteArray) (g:Nat) (T:TypeId) (X:Array Value) (w:World):Prop:=WB w0 M pb ln w∧Whole w g T X
section
variable {w0 w w':World} {M X:Array Value} {pb g:Nat} {ln:ByteArray} {T:TypeId}
theorem ItR.under (h:ItR w0 M pb ln g T X w) (hb:Below w.heap.size w w'):ItR w0 M pb ln g T X w':=⟨h.1.under hb,h.2.under hb⟩
theorem ItR.drew (h:ItR w0 M pb ln g T X w):ItR w0 M pb ln g T X w.drew:=⟨h.1.drew,h.2⟩
theorem ItR.alloc (h:ItR w0 M pb ln g T X w) (o:Obj):ItR w0 M pb ln g T X (w.alloc o):=⟨h.1.alloc o,h.2.alloc o⟩
theorem ItR.add {v v':Value} {L:List AttrS} (h:ItR w0 M pb ln g T X w) (ho:AtR w w0.heap.size v L) (hT:85≠T) (hg:Grew w v w' v'):ItR w0 M pb ln g T X w':=⟨h.1.add ho hg,hg.whole h.2 (Own.apart ho h.2 hT)⟩
theorem ItR.line (h:ItR w0 M pb ln g T X w) (hT:T≠88) (s:ByteArray):ItR w0 M pb s g T X (w.setCell ⟨pb,0,none⟩ (.string s)):=⟨h.1.line s,h.2.far (p:=⟨pb,0,none⟩) (h.2.ne h.1.prt hT) _⟩
end
end Go.Proofs.YtgnpckelbokniaaGreatDoor
