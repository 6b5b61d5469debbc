import Derived.Test.YtgnpckelbokniaaGreatDoorPkDescBackA02
import Derived.Test.YtgnpckelbokniaaGreatDoorPkDescBackA01
import Derived.Test.YtgnpckelbokniaaGreatDoorPkDescBackA00
namespace Go.Proofs.YtgnpckelbokniaaGreatDoor
open Go.RowKit
set_option linter.unusedVariables false
set_option linter.unusedSimpArgs false
def WriteO (E:TypeId) (w:World) (m:MediaS) (e:Ending) (w':World):Prop :=
 ∃P:Array Value,e=.returned (.tuple #[.agg P,.int .i64 (if mayM m=true then 0 else 1)])∧Below w.heap.size w w' ∧
  (mayM m=true→∃v,P=#[.string (bs (lineM m)),.string (bs wConn),v]∧Own w' w.heap.size E 2 v ((attrsM m).map acell))∧(mayM m=false→P=#[.string ⟨#[]⟩,.string ⟨#[]⟩,.slice none 0 0])
theorem WriteO.no {E:TypeId} {w w':World} {m:MediaS} (h:mayM m=false) (hb:Below w.heap.size w w'):WriteO E w m (.returned (.tuple #[.agg #[.string ⟨#[]⟩,.string ⟨#[]⟩,.slice none 0 0],.int .i64 1])) w' :=
 ⟨_,by rw [if_neg (by rw [h];decide)],hb,fun e=>(by rw [h] at e;cases e),fun _=>rfl⟩
theorem WriteO.yes {E:TypeId} {w w':World} {m:MediaS} {v:Value} {s:ByteArray} (h:mayM m=true) (hb:Below w.heap.size w w') (hs:s=bs (lineM m)) (ho:Own w' w.heap.size E 2 v ((attrsM m).map acell)) :
 WriteO E w m (.returned (.tuple #[.agg #[.string s,.string (bs wConn),v],.int .i64 0])) w' :=
 ⟨_,by rw [if_pos h],hb,fun _=>⟨v,by rw [hs],ho⟩,fun e=>(by rw [h] at e;cases e)⟩
theorem mayM_no {m:MediaS} (h:goodM m=false):mayM m=false:=by unfold mayM;rw [h];rfl
set_option maxHeartbeats 6400000 in
set_option maxRecDepth 100000 in
theorem write_any (M:Array Value) (m:MediaS) (vC vE vR vS vY:Value) (w:World) (h:MediaV w w.heap.size M m vC vE vR vS vY) (hz:SizM m) (hE:Env w) (h7:7≤w.heap.size) :
 Calls Tryz.prog 8 #[.agg M] w (WriteO 65 w m):=by
 have hb0:Below w.heap.size w ((w.alloc (.cells M 28)).alloc (.cells #[.string ⟨#[]⟩,.string ⟨#[]⟩,.slice none 0 0] 34)):=two_new _ _ _ _
 have hw:=(Whole.new w 28 M).alloc (.cells #[.string ⟨#[]⟩,.string ⟨#[]⟩,.slice none 0 0] 34)
 have hr:=Whole.new2 w (.cells M 28) 34 #[.string ⟨#[]⟩,.string ⟨#[]⟩,.slice none 0 0]
 have HSZ:=Lib.hid h.size
 have H0:=Lib.hid (And.intro hb0 (And.intro hw hr))
 have HM:=Lib.hid h
 have HZ:=Lib.hid hz
 have HEN:=Lib.hid hE
 clear h hz hE hb0 hw hr
 obtain ⟨N,hN⟩:∃N,w.heap.size=N:=⟨_,rfl⟩
 have HNW:Hid (w.heap.size=N):=Lib.hid hN
 have H7:Hid (7≤N):=Lib.hid (by omega)
 rw [hN] at H0
 clear hN h7
 go_enter Tryz.func8,Tryz.ntmps8
 go_upto_region 1 with fail
 simp only [HNW.out]
 generalize (w.alloc (.cells M 28)).alloc (.cells #[.string ⟨#[]⟩,.string ⟨#[]⟩,.slice none 0 0] 34)=W0 at *
 have HU:Hid (∀W,Below N w W→MediaV W W.heap.size M m vC vE vR vS vY∧Env W∧7≤W.heap.size):=Lib.hid fun W hW=>by
  rw [←HNW.out] at hW
  have h1:=hW.size
  exact ⟨HM.out.under hW,HEN.out.under hW,by have:=H7.out;rw [←HNW.out] at this;omega⟩
 have HGO:Hid (Calls Tryz.prog 19 #[.agg M] W0 fun e w'=>e=.returned (.bool (goodM m))∧Below W0.heap.size W0 w'):=Lib.hid (good_any M m vC vE vR vS vY W0 (HU.out _ H0.out.1).1 HZ.out)
 have HST:Hid (∀W W',Below N w W∧Whole W N 28 M∧Whole W (N+1) 34 #[.string ⟨#[]⟩,.string ⟨#[]⟩,.slice none 0 0]→Below W.heap.size W W'→Below N w W'∧Whole W' N 28 M∧Whole W' (N+1) 34 #[.string ⟨#[]⟩,.string ⟨#[]⟩,.slice none 0 0]):=Lib.hid fun W W' h hb=>⟨h.1.trans (hb.mono (by rw [←HNW.out];have:=h.1.size;rw [HNW.out] at this ⊢;exact this)),h.2.1.under hb,h.2.2.under hb⟩
 cases hg:goodM m with
 | false =>
   have HNO:=Lib.hid (mayM_no hg)
   rw [hg] at HGO
   clear hg
   go_wp2_with (first | ((with_reducible refine wpList_load_all ?_ 28 (.tmp 1) ?_ H0.out.2.1 ?_ Tryz.sizeMedia HSZ.out Tryz.underlying28 ?_ ?_);(with_reducible rfl);(with_reducible rfl);rfl;rfl) | (go_at_call 19;(with_reducible refine HGO.out.mono ?_);rintro e w1 ⟨rfl,hb1⟩;have H1:=Lib.hid (HST.out _ _ H0.out hb1);clear hb1) | ((with_reducible refine wpList_storeS #[.string ⟨#[]⟩,.string ⟨#[]⟩,.slice none 0 0] ?_ 34 (.tmp 2) (.tmp 8) ?_ ?_ ?_ H1.out.2.2 Tryz.sizeSPart ?_ ?_ ?_ ?_);(with_reducible rfl);(with_reducible rfl);rfl;rfl;rfl;rfl;rfl))
   refine bodyPost_ret (v:=.tuple #[.agg #[.string ⟨#[]⟩,.string ⟨#[]⟩,.slice none 0 0],.int .i64 1]) ?_ rfl ?_
   · exact ret_struct2 (p:=2) (s:=3) rfl rfl (H1.out.2.2.row _) Tryz.underlying34 rfl Tryz.sizeSPart rfl
   · exact WriteO.no HNO.out (by rw [HNW.out];exact below_row H1.out.1 (by omega) _)
 | true =>
   obtain ⟨hp,hmd,⟨hd0,hd3⟩,hk,hs⟩:=goodM_parts hg
   have HK:Hid ((1≤m.kind∧m.kind≤3)∧(0≤m.port∧m.port≤9)∧∀c∈m.codecs,0≤c.type∧c.type≤127):=Lib.hid ⟨by omega,by omega,fun c hc=>(goodC_parts (hs.codecs c hc)).1⟩
   have HG:=Lib.hid hg
   have HAT:Hid (∀W,Below N w W→Calls Tryz.prog 20 #[.agg M] W fun e w'=>∃v,e=.returned v∧AtO w' W.heap.size v (attrsM m)∧Below W.heap.size W w'):=Lib.hid fun W hW=>attributes_any M m vC vE vR vS vY W (HU.out W hW).1 HZ.out (HU.out W hW).2.1 (HU.out W hW).2.2 HG.out
   have HLI:Hid (∀W,Below N w W→Calls Tryz.prog 21 #[.agg M] W fun e w'=>e=.returned (.string (bs (lineM m)))∧Below W.heap.size W w'):=Lib.hid fun W hW=>line_any M m vC vE vR vS vY W (HU.out W hW).1 HZ.out (HU.out W hW).2.1 HK.out.1 HK.out.2.1 HK.out.2.2
   rw [hg] at HGO
   clear hg hp hmd hd0 hd3 hk hs HK
   go_upto_region 3 with (first | ((with_reducible refine wpList_load_all ?_ 28 (.tmp 1) ?_ H0.out.2.1 ?_ Tryz.sizeMedia HSZ.out Tryz.underlying28 ?_ ?_);(with_reducible rfl);(with_reducible rfl);rfl;rfl) | (go_at_call 19;(with_reducible refine HGO.out.mono ?_);rintro e w1 ⟨rfl,hb1⟩;have H1:=Lib.hid (HST.out _ _ H0.out hb1);clear hb1))
   go_upto_region 4 with (first | ((with_reducible refine wpList_load_all ?_ 28 (.tmp 1) ?_ H1.out.2.1 ?_ Tryz.sizeMedia HSZ.out Tryz.underlying28 ?_ ?_);(with_reducible rfl);(with_reducible rfl);rfl;rfl) | (go_at_call 20;(with_reducible refine (HAT.out _ H1.out.1).mono ?_);rintro e w2 ⟨v2,rfl,ho2,hb2⟩;have H2:=Lib.hid (HST.out _ _ H1.out hb2);have HO2:Hid (AtO w2 N v2 (attrsM m)):=Lib.hid (Own.base_le ho2 (by have:=H1.out.1.size;rw [HNW.out] at this;exact this));clear hb2 ho2))
   obtain ⟨A2,c2,hv2,-⟩:=Own.form HO2.out
   rw [List.length_map] at hv2
   obtain ⟨n,hn⟩:∃n,(attrsM m).length=n:=⟨_,rfl⟩
   rw [hn] at hv2
   subst hv2
   by_cases h64:64<n
   · have HNO:Hid (mayM m=false):=Lib.hid (by unfold mayM;rw [HG.out,hn];simp;omega)
     have h64:(64:Int)<(n:Int):=by omega
     clear hn
     go_wp2_with ((with_reducible refine wpList_storeS #[.string ⟨#[]⟩,.string ⟨#[]⟩,.slice none 0 0] ?_ 34 (.tmp 2) (.tmp 14) ?_ ?_ ?_ H2.out.2.2 Tryz.sizeSPart ?_ ?_ ?_ ?_);(with_reducible rfl);(with_reducible rfl);rfl;rfl;rfl;rfl;rfl)
     refine bodyPost_ret (v:=.tuple #[.agg #[.string ⟨#[]⟩,.string ⟨#[]⟩,.slice none 0 0],.int .i64 1]) ?_ rfl ?_
     · exact ret_struct2 (p:=2) (s:=3) rfl rfl (H2.out.2.2.row _) Tryz.underlying34 rfl Tryz.sizeSPart rfl
     · exact WriteO.no HNO.out (by rw [HNW.out];exact below_row H2.out.1 (by omega) _)
   · have HYE:Hid (mayM m=true):=Lib.hid (by unfold mayM;rw [HG.out,hn];simp;omega)
     have h64:(n:Int)≤(64:Int):=by omega
     obtain ⟨sl,hsl⟩:∃s,bs (lineM m)=s:=⟨_,rfl⟩
     have HSL:=Lib.hid hsl
     rw [hsl] at HLI
     clear hn hsl
     go_wp2_with (first | ((with_reducible refine wpList_load_all ?_ 28 (.tmp 1) ?_ H2.out.2.1 ?_ Tryz.sizeMedia HSZ.out Tryz.underlying28 ?_ ?_);(with_reducible rfl);(with_reducible rfl);rfl;rfl) | (go_at_call 21;(with_reducible refine (HLI.out _ H2.out.1).mono ?_);rintro e w3 ⟨rfl,hb3⟩;have H3:=Lib.hid (HST.out _ _ H2.out hb3);have HO3:=Lib.hid (HO2.out.under hb3);clear hb3) | ((with_reducible refine wpList_storeS #[.string sl,.string ⟨#[73,78,32,73,80,52,32,48,46,48,46,48,46,48]⟩,.slice A2 n c2] ?_ 34 (.tmp 2) (.tmp 18) ?_ ?_ ?_ H3.out.2.2 Tryz.sizeSPart ?_ ?_ ?_ ?_);(with_reducible rfl);(with_reducible rfl);rfl;rfl;rfl;rfl;rfl))
     refine bodyPost_ret (v:=.tuple #[.agg #[.string sl,.string ⟨#[73,78,32,73,80,52,32,48,46,48,46,48,46,48]⟩,.slice A2 n c2],.int .i64 0]) ?_ rfl ?_
     · exact ret_struct2 (p:=2) (s:=3) rfl rfl (H3.out.2.2.row _) Tryz.underlying34 rfl Tryz.sizeSPart rfl
     · exact WriteO.yes HYE.out (by rw [HNW.out];exact below_row H3.out.1 (by omega) _) HSL.out.symm (by rw [HNW.out];exact Own.farRow HO3.out (Own.apart HO3.out H3.out.2.2 (by decide)) _)
end Go.Proofs.YtgnpckelbokniaaGreatDoor
namespace Go.Proofs.YtgnpckelbokniaaGreatDoor
open Go.RowKit Go.Shelf
set_option linter.unusedVariables false
set_option linter.unusedSimpArgs false
def Bs (w:World) (B:Nat) (A:Option Addr) (n:Nat) (xs:List Int):Prop :=
 xs.length=n∧(0<n→∃ad,A=some ad∧ad.block<B∧∀i,i<n→w.cell? (ad.add i)=some (.int .u8 (xs.getD i 0)))
section
variable {w w':World} {B:Nat} {A:Option Addr} {n:Nat} {xs:List Int}
theorem Bs.below (h:Bs w B A n xs) (hb:Below B w w'):Bs w' B A n xs :=
 ⟨h.1,fun hn=>by
  obtain ⟨ad,h1,h2,h3⟩:=h.2 hn
  exact ⟨ad,h1,h2,fun i hi=>(hb.cell (p:=ad.add i) (by rw [add_block];exact h2)).trans (h3 i hi)⟩⟩
theorem Bs.more {B':Nat} (h:Bs w B A n xs) (hB:B≤B'):Bs w B' A n xs :=
 ⟨h.1,fun hn=>by
  obtain ⟨ad,h1,h2,h3⟩:=h.2 hn
  exact ⟨ad,h1,by omega,h3⟩⟩
end
def u8s (xs:List Int):List Value:=xs.map (Value.int .u8)
@[simp] theorem u8s_length (xs:List Int):(u8s xs).length=xs.length:=by simp [u8s]
def Own8 (w:World) (base:Nat) (v:Value) (xs:List Int):Prop:=w.ownsRow base 5 1 v xs.length (u8s xs)
section
variable {w w':World} {base:Nat} {v:Value} {xs:List Int}
theorem Own8.nil (w:World) (base:Nat):Own8 w base (.slice none 0 0) []:=World.ownsRow_nil w base 5 1
theorem Own8.lt (h:Own8 w base v xs) {k:Nat} (hk:v.ownBlock=some k):base≤k∧k<w.heap.size:=World.ownsRow.lt h k hk
theorem Own8.grown {row:Option Nat} (h:Own8 w base v xs) (hg:w.grownBy w' row) (hne:v.ownBlock=none∨v.ownBlock≠row):Own8 w' base v xs:=World.ownsRow.kept h hg hne
theorem Own8.alloc (h:Own8 w base v xs) (o:Obj):Own8 (w.alloc o) base v xs:=World.ownsRow.alloc h o
theorem Own8.under (h:Own8 w base v xs) (hb:Below w.heap.size w w'):Own8 w' base v xs:=by
 refine ⟨h.1,?_⟩
 rcases h.2 with h0 | ⟨g,cap,cur,h1,h2,h3,h4⟩
 · exact .inl h0
 · exact .inr ⟨g,cap,cur,h1,h2,(hb.block g (Array.getElem?_eq_some_iff.1 h3).1).trans h3,h4⟩
theorem Own8.drewN (h:Own8 w base v xs) (n:Nat):Own8 (w.drewN n) base v xs:=h
theorem Own8.drew (h:Own8 w base v xs):Own8 w.drew base v xs:=h
theorem Own8.form (h:Own8 w base v xs):∃A c,v=.slice A xs.length c∧xs.length≤c∧c≤maxLen∧(A=none→c=0)∧Bs w w.heap.size A xs.length xs:=by
 rcases h.2 with ⟨rfl,h0⟩ | ⟨g,cap,cur,rfl,h2,h3,h4,h5,h6,h7⟩
 · exact ⟨none,0,by rw [h0],by omega,Nat.zero_le _,fun _=>rfl,rfl,fun hn=>by omega⟩
 · refine ⟨_,cap,rfl,h4,h5,(fun e=>by cases e),rfl,fun hn=>⟨_,rfl,(Array.getElem?_eq_some_iff.1 h3).1,fun i hi=> ?_⟩⟩
   have:=World.ownsRow.cells (g:=g) h rfl i (.int .u8 (xs.getD i 0)) (by simp [u8s,List.getD,hi])
   exact this
theorem Own8.bs {A:Option Addr} {c:Nat} (h:Own8 w base (.slice A xs.length c) xs):Bs w w.heap.size A xs.length xs:=by
 obtain ⟨A',c',hv,_,_,_,hb⟩:=h.form
 cases hv
 exact hb
theorem Own8.at_ (h:Own8 w base v xs) {i:Nat} (hi:i<xs.length):∃g c,v=.slice (some ⟨g,0,none⟩) xs.length c∧base≤g∧g<w.heap.size∧w.cell? ⟨g,i,none⟩=some (.int .u8 (xs.getD i 0))∧w.frozen? ⟨g,i,none⟩=false:=by
 obtain ⟨A,c,rfl,_,_,_,hb⟩:=h.form
 rcases h.2 with ⟨hv,h0⟩ | ⟨g,cap,cur,hv,h2,h3,h4⟩
 · omega
 · cases hv
   refine ⟨g,c,rfl,h2,(Array.getElem?_eq_some_iff.1 h3).1,?_,?_⟩
   · obtain ⟨ad,e,_,hc⟩:=hb.2 (by omega)
     cases e
     have:=hc i hi
     rwa [Addr.add_lit,Nat.zero_add] at this
   · simp [World.frozen?,h3]
end
theorem Bs.laid (w:World) (xs:List Int) (t:TypeId):Bs (w.alloc (.cells (u8s xs).toArray t)) (w.heap.size+1) (some ⟨w.heap.size,0,none⟩) xs.length xs :=
 ⟨rfl,fun hn=>⟨_,rfl,Nat.lt_succ_self _,fun i hi=>by
  rw [Addr.add_lit,(Whole.new w t _).cell]
  simp [u8s,List.getD,hi]⟩⟩
theorem Own8.apart {w:World} {base:Nat} {v:Value} {xs:List Int} (h:Own8 w base v xs) {g:Nat} {t:TypeId} {cs:Array Value} (hg:Whole w g t cs) (he:5≠t):v.ownBlock≠some g:=fun e2=>by
 rcases h.2 with ⟨rfl,_⟩ | ⟨g',cap,cur,rfl,_,h3,_⟩
 · cases e2
 · have e3:g'=g:=by simpa [Value.ownBlock] using e2
   subst e3
   have e4:some (Obj.cells cur 5 (0,0))=some (Obj.cells cs t (0,0)):=Eq.trans (Eq.symm h3) hg
   injection e4 with e5
   injection e5 with _ e6
   exact he e6
theorem Own8.below {w w':World} {base:Nat} {v:Value} {xs:List Int} (h:Own8 w base v xs) {w0:World} (hb:Below base w0 w) (hB:base≤w.heap.size) (hg:w.grownBy w' v.ownBlock):Below base w0 w' :=
 hb.grown hg hB (fun j hj=>(h.lt hj).1)
end Go.Proofs.YtgnpckelbokniaaGreatDoor
namespace Go.Proofs.YtgnpckelbokniaaGreatDoor
open Go.RowKit
set_option linter.unusedVariables false
set_option linter.unusedSimpArgs false
def isL (c:UInt8):Bool:=decide (Lib.indexByte wLetters c≠-1)
def keyR (l:Tx):Tx:=if l.length=40∧l.all isL=true then decK l else List.replicate 30 0
set_option maxRecDepth 100000 in
theorem letter_isL:∀v,v<64→isL (letter v)=true:=by decide +kernel
theorem encK_isL:∀(t:Nat) (k:Tx),k.length=3 * t→(encK k).all isL=true
 | 0,k,h=>by
   obtain rfl:k=[]:=List.eq_nil_of_length_eq_zero (by omega)
   rfl
 | t+1,k,h=>by
   match k,h with
   | a :: b :: c :: r,h =>
     have:=encK_isL t r (by simp at h;omega)
     have hn:=num3_lt a b c
     show (enc3 a b c++encK r).all isL=true
     rw [List.all_append,this,Bool.and_true]
     show ([letter (num3 a b c / 262144),letter (num3 a b c / 4096 % 64),letter (num3 a b c / 64 % 64),letter (num3 a b c % 64)].all isL)=true
     simp only [List.all_cons,List.all_nil,letter_isL _ (show num3 a b c / 262144<64 by omega),letter_isL _ (show num3 a b c / 4096 % 64<64 by omega),letter_isL _ (show num3 a b c / 64 % 64<64 by omega),letter_isL _ (show num3 a b c % 64<64 by omega)]
     rfl
theorem keyR_enc {k:Tx} (h:k.length=30):keyR (encK k)=k:=by
 unfold keyR
 rw [if_pos ⟨by rw [encK_len 10 k (by omega)],encK_isL 10 k (by omega)⟩,decK_encK 10 k (by omega)]
end Go.Proofs.YtgnpckelbokniaaGreatDoor
namespace Go.Proofs.YtgnpckelbokniaaGreatDoor
set_option linter.unusedVariables false
set_option linter.unusedSimpArgs false
def cryR (l:Tx):CryptoS:=⟨numR (hd l),keyR (cutS [58] (tl l)).2.1⟩
def rR:Rdr:=⟨numR,srcR,cryR,id⟩
theorem rR_law:rR.Law where
 num n h:=numR_dec h
 src n h:=srcR_dec h
 cry c h1 h9 hk:=by
  have e1:hd (cryptoT c)=decI c.tag:=hd_at _ _ (decI_32 _)
  have e2:tl (cryptoT c)=(wSuite++32 :: [105,110,108,105,110,101])++58 :: encK c.key:=by
   rw [show (wSuite++32 :: [105,110,108,105,110,101])++58 :: encK c.key=wSuite++32 :: (wInl++encK c.key) by rfl]
   exact tl_at (decI c.tag) (wSuite++32 :: (wInl++encK c.key)) (decI_32 _)
  have e3:(cutS [58] (tl (cryptoT c))).2.1=encK c.key:=by
   rw [e2,cut_at _ _ (by decide)]
  have e4:numR (decI c.tag)=c.tag:=by
   unfold decI
   rw [numR_dec (by omega)]
   omega
  show cryR (cryptoT c)=c
  unfold cryR
  rw [e1,e3,keyR_enc hk,e4]
 still:=rfl
theorem fits_no {R:DRdr} (hR:R.Law) {x:SesS} {M:List MediaS} (hn:¬Fits8 x {readD R x with media:=M}) (hl:x.parts.length=M.length) (hp:∀(i:Nat) (p:PartS) (m:MediaS),x.parts[i]? = some p→M[i]? = some m→IsM p m) (hT:∀m∈M,TypedM m):∀d',TypedD d'→¬IsD x d':=fun d' ht h=>by
 have e:=h.read hR ht
 have e2:M=d'.media:=by
  apply List.ext_getElem?
  intro i
  by_cases hi:i<x.parts.length
  · have h1:i<M.length:=by rw [←hl];exact hi
    have h2:i<d'.media.length:=by rw [←h.len];exact hi
    have q1:=hp i _ _ (List.getElem?_eq_getElem hi) (List.getElem?_eq_getElem h1)
    have q2:=h.parts i _ _ (List.getElem?_eq_getElem hi) (List.getElem?_eq_getElem h2)
    rw [List.getElem?_eq_getElem h1,List.getElem?_eq_getElem h2,←IsM.read rR_law q1 (hT _ (List.getElem_mem _)),←IsM.read rR_law q2 (ht.2.2 _ (List.getElem_mem _))]
  · rw [List.getElem?_eq_none (by rw [←hl];omega),List.getElem?_eq_none (by rw [←h.len];omega)]
 refine hn ?_
 rw [e,e2]
 exact ⟨h.good,h.origin,h.name,h.time,h.attrs⟩
end Go.Proofs.YtgnpckelbokniaaGreatDoor
