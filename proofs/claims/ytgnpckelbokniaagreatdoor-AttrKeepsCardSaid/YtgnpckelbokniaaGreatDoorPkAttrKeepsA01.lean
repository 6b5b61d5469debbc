import Derived.Test.YtgnpckelbokniaaGreatDoorPkAttrKeepsA00
import Derived.Deep.Slices
import Derived.RangeFuncNested
namespace Go.Proofs.YtgnpckelbokniaaGreatDoor
open Go.RowKit
set_option linter.unusedVariables false
set_option linter.unusedSimpArgs false
theorem Rows.take {α:Type} {w:World} {B sz:Nat} {R:(Nat→Option Value)→α→Prop} {A:Option Addr} {n c:Nat} {L:List α} (h:Rows w B sz R (.slice A n c) L) {k:Nat} (hk:k≤L.length):Rows w B sz R (.slice A k c) (L.take k):=by
 obtain ⟨A',c',h1,h2,h3,h4,h5⟩:=h
 injection h1 with e1 e2 e3
 subst e1 e2 e3
 have hl:(L.take k).length=k:=by rw [List.length_take];omega
 refine ⟨A,c,by rw [hl],by omega,h3,h4,fun hn=> ?_⟩
 obtain ⟨ad,e1,e2,e3⟩:=h5 (by omega)
 refine ⟨ad,e1,e2,fun i x hx=>e3 i x ?_⟩
 rw [List.getElem?_take] at hx
 split at hx
 · exact hx
 · cases hx
theorem unlike_step {α κ:Type} [DecidableEq κ] {f:α→κ} {L:List α} {k:Nat} {x:α} {q:α→Bool} (hx:L[k]? = some x) (h:unlike f (L.take k)=true) (hq:∀y,q y=true↔f y=f x) :
 ((L.take k).any q=true→unlike f L=false)∧((L.take k).any q=false→unlike f (L.take (k+1))=true):=by
 unfold unlike at h ⊢
 rw [decide_eq_true_eq] at h
 have hk:k<L.length:=(List.getElem?_eq_some_iff.1 hx).1
 have e:L.take (k+1)=L.take k++[x]:=by rw [List.take_add_one,hx];rfl
 constructor
 · intro ha
   rw [List.any_eq_true] at ha
   obtain ⟨y,hy,hqy⟩:=ha
   rw [decide_eq_false_iff_not]
   intro hn
   have hs:List.Sublist ((L.take (k+1)).map f) (L.map f):=(List.take_sublist _ _).map f
   have hn:=hs.nodup hn
   rw [e,List.map_append,List.nodup_append] at hn
   exact hn.2.2 (f y) (List.mem_map.2 ⟨y,hy,rfl⟩) (f x) (by simp) ((hq y).1 hqy)
 · intro ha
   rw [List.any_eq_false] at ha
   rw [decide_eq_true_eq,e,List.map_append,List.nodup_append]
   refine ⟨h,by simp,fun a ha' b hb=> ?_⟩
   obtain ⟨y,hy,rfl⟩:=List.mem_map.1 ha'
   simp at hb
   subst hb
   intro he
   exact ha y hy ((hq y).2 he)
theorem all_no {α:Type} {L:List α} {q:α→Bool} {x:α} (hx:x∈L) (h:q x=false):L.all q=false:=by
 rw [Bool.eq_false_iff]
 intro ha
 rw [List.all_eq_true] at ha
 rw [ha x hx] at h
 cases h
theorem all_yesL {α:Type} [Inhabited α] {L:List α} {q:α→Bool} {n:Nat} (hn:L.length=n) (h:∀j,j<n→q (L.getD j default)=true):L.all q=true:=by
 rw [List.all_eq_true]
 intro a ha
 obtain ⟨j,hj,rfl⟩:=List.getElem_of_mem ha
 have:=h j (by omega)
 simpa [List.getD,hj] using this
set_option maxHeartbeats 3200000 in
set_option maxRecDepth 100000 in
theorem goodListS_any (A:Option Addr) (n c:Nat) (L:List ByteArray) (good:ByteArray→Bool) (w:World) (h:TextsV w w.heap.size (.slice A n c) L) (hn:L.length=n) (hl:n≤140737488355328)
 (hg:∀(W:World) (x:ByteArray),Below w.heap.size w W→x∈L→Calls Tryz.prog 102 #[.string x] W fun e w'=>e=.returned (.bool (good x))∧Below W.heap.size W w') :
 Calls Tryz.prog 100 #[.slice A n c,.int .i64 3,.func (.func 101) #[] #[],.func (.func 102) #[] #[]] w fun e w'=>e=.returned (.bool (decide (n≤3) && L.all good && unlike tx L))∧Below w.heap.size w w':=by
 have hb0:Below w.heap.size w (w.alloc (.cells #[.func (.func 101) #[] #[]] 67)):=(Below.refl _ w).alloc (Nat.le_refl _) _
 have hz:=Whole.new w 67 #[.func (.func 101) #[] #[]]
 have hcap:n≤c∧c≤maxLen:=by
  obtain ⟨A',c',e1,e2,e3,-⟩:=Rows.form h
  injection e1 with e1 e1n e1c
  subst e1c
  exact ⟨by omega,e3⟩
 have HV:=Lib.hid h
 have HGD:=Lib.hid hg
 have HE:=Lib.hid hn
 have HB0:=Lib.hid (And.intro hb0 hz)
 obtain ⟨hc1,hc2⟩:=hcap
 unfold maxLen at hc2
 obtain ⟨r,hr⟩:∃r,(decide (n≤3) && L.all good && unlike tx L)=r:=⟨_,rfl⟩
 have HR:=Lib.hid hr
 rw [hr]
 clear h hg hn hb0 hz hr
 by_cases hm:n≤3
 · have hmi:(n:Int)≤3:=by omega
   obtain ⟨N,hN⟩:∃N,w.heap.size=N:=⟨_,rfl⟩
   rw [hN] at HB0 HV HGD ⊢
   go_enter Tryz.func100,Tryz.ntmps100
   go_upto_region 1 with fail
   generalize w.alloc (.cells #[.func (.func 101) #[] #[]] 67)=W0 at *
   have HN0:Hid (N≤W0.heap.size):=Lib.hid (Nat.le_of_lt HB0.out.2.lt)
   clear hN
   have hmf:∀(fn:Fn) (first cap:Array Value) (w:World),(Instr.makeFunc fn first cap).run Tryz.prog w=.ok (.func fn first cap) w:=fun _ _ _ _=>rfl
   go_wp2
   go_loopw [18] (fun s18 wr=>∃k:Nat,k≤n∧s18=.int .i64 k∧(Below W0.heap.size W0 wr∧(∀j,j<k→good (L.getD j default)=true)∧unlike tx (L.take k)=true)) (fun s18 _=>n - (intOf s18).toNat)
   case atStart=>exact ⟨0,by omega,rfl,Below.refl _ _,(fun j hj=>by omega),rfl⟩
   case round =>
    obtain ⟨k,hk,rfl,hst⟩:=hrel
    have HS:=Lib.hid hst
    clear hst
    by_cases hlt:k<n
    · have hlt':k<L.length:=by rw [HE.out];exact hlt
      have HBW:Hid (Below N w wr):=Lib.hid (HB0.out.1.trans (HS.out.1.mono HN0.out))
      obtain ⟨ad,c',e1,had,c0⟩:=(HV.out.below HBW.out).at_ hlt'
      injection e1 with e1 e1n e1c
      clear e1n e1c
      subst e1
      obtain ⟨x,hx⟩:∃x,L.getD k default=x:=⟨_,rfl⟩
      have HM:Hid (x∈L∧L[k]? = some x∧L.getD k default=x):=Lib.hid ⟨by rw [←hx];exact getD_mem hlt',by rw [←hx];exact getD_of hlt',hx⟩
      rw [hx] at c0
      have hk0:(0:Int)≤(k:Int):=by omega
      have hk1:(k:Int)<(n:Int):=by omega
      have hk2:(k:Int)≤(c:Int):=by omega
      have hN0:W0.heap.size≤wr.heap.size:=HS.out.1.size
      have HNEW:Hid (Whole (wr.alloc (.cells #[.string ⟨#[]⟩] 9)) wr.heap.size 9 #[.string ⟨#[]⟩]):=Lib.hid (Whole.new _ _ _)
      have HW:Hid (Below W0.heap.size W0 (wr.alloc (.cells #[.string x] 9))∧Whole (wr.alloc (.cells #[.string x] 9)) wr.heap.size 9 #[.string x]∧Below N wr (wr.alloc (.cells #[.string x] 9))):=Lib.hid ⟨HS.out.1.alloc hN0 _,Whole.new wr 9 #[.string x],(Below.refl N wr).alloc (Nat.le_trans HN0.out hN0) _⟩
      clear hx had hlt' hN0
      go_upto_region 7 with fail
      generalize (wr.alloc (.cells #[.string x] 9))=w2 at *
      generalize wr.heap.size=g at *
      clear c0 HNEW
      have HBW2:Hid (Below N w w2):=Lib.hid (HB0.out.1.trans (HW.out.1.mono HN0.out))
      have HSZ:Hid (N≤w2.heap.size):=Lib.hid (Nat.le_trans HN0.out HW.out.1.size)
      have cg:=HW.out.2.1
      have cg0:=cg.cell 0
      simp only [List.getElem?_toArray,List.getElem?_cons_zero,List.getElem?_cons_succ] at cg0
      clear cg
      obtain ⟨b,hb⟩:∃b,good x=b:=⟨_,rfl⟩
      have HC:=Lib.hid (HGD.out w2 x HBW2.out HM.out.1)
      rw [hb] at HC
      have HBG:=Lib.hid hb
      clear hb
      cases b with
      | false =>
        have HQ:Hid (r=false):=Lib.hid (by rw [←HR.out,all_no HM.out.1 HBG.out];simp)
        go_wp2_with (go_at_call 102;(with_reducible refine HC.out.mono ?_);rintro e w3 ⟨rfl,hb3⟩)
        go_ret
        exact ⟨ret_bool HQ.out.symm,HBW2.out.trans (hb3.mono HSZ.out)⟩
      | true =>
        obtain ⟨a,ha⟩:∃a,(L.take k).any (fun y=>y.toList == x.toList)=a:=⟨_,rfl⟩
        have HCO:Hid (∀w3,Below w2.heap.size w2 w3→Calls Tryz.prog 150 #[.slice (some ad) k c,.func (.func 155) #[] #[.pointer (some ⟨N,0,none⟩),.pointer (some ⟨g,0,none⟩)]] w3 fun e w'=>e=.returned (.bool a)∧Below w3.heap.size w3 w'):=Lib.hid fun w3 hb3=>by
         have hkey:w3.cell? ⟨N,0,none⟩=some (.func (.func 101) #[] #[]):=((HB0.out.2.under (HW.out.1.trans (hb3.mono HW.out.1.size))).cell 0)
         have hgx:=HW.out.2.1.under hb3
         have hsz:N≤w2.heap.size:=HSZ.out
         have hv3:=Rows.take (k:=k) (HV.out.below (HBW2.out.trans (hb3.mono hsz))) (by rw [HE.out];omega)
         have hv3:TextsV w3 w3.heap.size (.slice (some ad) k c) (L.take k):=TextsV.more hv3 (Nat.le_trans hsz hb3.size)
         have:=containsS_any (some ad) k c (L.take k) (fun y=>y.toList == x.toList) (.pointer (some ⟨N,0,none⟩)) (.pointer (some ⟨g,0,none⟩)) w3 hv3 (by rw [List.length_take,HE.out];omega) (by omega)
          (fun W y hW' _=>by
            have h1:W.cell? ⟨N,0,none⟩=some (.func (.func 101) #[] #[]):=(hW'.cell (p:=⟨N,0,none⟩) (block_lt_of_cell hkey)).trans hkey
            have h2:=hgx.under hW'
            exact (alikeS_any y x N g W h1 (h2.cell 0)))
         rw [ha] at this
         exact this
        have HST:=Lib.hid (unlike_step (f:=tx) (q:=(fun y=>y.toList == x.toList)) HM.out.2.1 HS.out.2.2 (fun y=>by rw [beq_iff_eq,toList_tx,toList_tx]))
        rw [ha] at HST
        clear ha
        cases a with
        | true =>
          have HQ:Hid (r=false):=Lib.hid (by rw [←HR.out,HST.out.1 rfl];simp)
          go_wp2_with (first | (go_at_call 102;(with_reducible refine HC.out.mono ?_);rintro e w3 ⟨rfl,hb3⟩;have HCC:=Lib.hid (HCO.out w3 hb3)) | (go_at_call 150;(with_reducible refine HCC.out.mono ?_);rintro e w4 ⟨rfl,hb4⟩))
          go_ret
          exact ⟨ret_bool HQ.out.symm,(HBW2.out.trans (hb3.mono HSZ.out)).trans (hb4.mono (Nat.le_trans HSZ.out hb3.size))⟩
        | false =>
          go_wp2_with (first | (go_at_call 102;(with_reducible refine HC.out.mono ?_);rintro e w3 ⟨rfl,hb3⟩;have HCC:=Lib.hid (HCO.out w3 hb3)) | (go_at_call 150;(with_reducible refine HCC.out.mono ?_);rintro e w4 ⟨rfl,hb4⟩))
          go_roundw
          case rel =>
           refine ⟨k+1,by omega,by go_num,(HW.out.1.trans (hb3.mono HW.out.1.size)).trans (hb4.mono (Nat.le_trans HW.out.1.size hb3.size)),fun j hj=> ?_,HST.out.2 (by first | rfl | trivial)⟩
           by_cases e:j=k
           · subst e
             rw [HM.out.2.2]
             exact HBG.out
           · exact HS.out.2.1 j (by omega)
          case measure=>simp [intOf];omega
    · have e:k=n:=by omega
      subst e
      have HQ:Hid (r=true):=Lib.hid (by
       rw [←HR.out,all_yesL HE.out HS.out.2.1]
       have:=HS.out.2.2
       rw [List.take_of_length_le (by rw [HE.out];exact Nat.le_refl _)] at this
       rw [this]
       simp [hm])
      have HBW:Hid (Below N w wr):=Lib.hid (HB0.out.1.trans (HS.out.1.mono HN0.out))
      go_wp2
      go_ret
      exact ⟨ret_bool HQ.out.symm,HBW.out⟩
 · have hmi:3<(n:Int):=by omega
   have HQ:Hid (r=false):=Lib.hid (by rw [←HR.out];simp [hm])
   go_enter Tryz.func100,Tryz.ntmps100
   go_wp2
   go_ret
   exact ⟨ret_bool HQ.out.symm,HB0.out.1⟩
set_option maxHeartbeats 3200000 in
set_option maxRecDepth 100000 in
theorem goodListU_any (A:Option Addr) (n c:Nat) (L:List Nat) (good:Nat→Bool) (w:World) (h:NumsV w w.heap.size (.slice A n c) L) (hn:L.length=n) (hl:n≤140737488355328)
 (hg:∀(W:World) (x:Nat),Below w.heap.size w W→x∈L→Calls Tryz.prog 105 #[.int .u32 (x:Nat)] W fun e w'=>e=.returned (.bool (good x))∧Below W.heap.size W w') :
 Calls Tryz.prog 103 #[.slice A n c,.int .i64 16,.func (.func 104) #[] #[],.func (.func 105) #[] #[]] w fun e w'=>e=.returned (.bool (decide (n≤16) && L.all good && unlike id L))∧Below w.heap.size w w':=by
 have hb0:Below w.heap.size w (w.alloc (.cells #[.func (.func 104) #[] #[]] 165)):=(Below.refl _ w).alloc (Nat.le_refl _) _
 have hz:=Whole.new w 165 #[.func (.func 104) #[] #[]]
 have hcap:n≤c∧c≤maxLen:=by
  obtain ⟨A',c',e1,e2,e3,-⟩:=Rows.form h
  injection e1 with e1 e1n e1c
  subst e1c
  exact ⟨by omega,e3⟩
 have HV:=Lib.hid h
 have HGD:=Lib.hid hg
 have HE:=Lib.hid hn
 have HB0:=Lib.hid (And.intro hb0 hz)
 obtain ⟨hc1,hc2⟩:=hcap
 unfold maxLen at hc2
 obtain ⟨r,hr⟩:∃r,(decide (n≤16) && L.all good && unlike id L)=r:=⟨_,rfl⟩
 have HR:=Lib.hid hr
 rw [hr]
 clear h hg hn hb0 hz hr
 by_cases hm:n≤16
 · have hmi:(n:Int)≤16:=by omega
   obtain ⟨N,hN⟩:∃N,w.heap.size=N:=⟨_,rfl⟩
   rw [hN] at HB0 HV HGD ⊢
   go_enter Tryz.func103,Tryz.ntmps103
   go_upto_region 1 with fail
   generalize w.alloc (.cells #[.func (.func 104) #[] #[]] 165)=W0 at *
   have HN0:Hid (N≤W0.heap.size):=Lib.hid (Nat.le_of_lt HB0.out.2.lt)
   clear hN
   have hmf:∀(fn:Fn) (first cap:Array Value) (w:World),(Instr.makeFunc fn first cap).run Tryz.prog w=.ok (.func fn first cap) w:=fun _ _ _ _=>rfl
   go_wp2
   go_loopw [18] (fun s18 wr=>∃k:Nat,k≤n∧s18=.int .i64 k∧(Below W0.heap.size W0 wr∧(∀j,j<k→good (L.getD j default)=true)∧unlike id (L.take k)=true)) (fun s18 _=>n - (intOf s18).toNat)
   case atStart=>exact ⟨0,by omega,rfl,Below.refl _ _,(fun j hj=>by omega),rfl⟩
   case round =>
    obtain ⟨k,hk,rfl,hst⟩:=hrel
    have HS:=Lib.hid hst
    clear hst
    by_cases hlt:k<n
    · have hlt':k<L.length:=by rw [HE.out];exact hlt
      have HBW:Hid (Below N w wr):=Lib.hid (HB0.out.1.trans (HS.out.1.mono HN0.out))
      obtain ⟨ad,c',e1,had,c0⟩:=(HV.out.below HBW.out).at_ hlt'
      injection e1 with e1 e1n e1c
      clear e1n e1c
      subst e1
      obtain ⟨x,hx⟩:∃x,L.getD k default=x:=⟨_,rfl⟩
      have HM:Hid (x∈L∧L[k]? = some x∧L.getD k default=x):=Lib.hid ⟨by rw [←hx];exact getD_mem hlt',by rw [←hx];exact getD_of hlt',hx⟩
      rw [hx] at c0
      have hk0:(0:Int)≤(k:Int):=by omega
      have hk1:(k:Int)<(n:Int):=by omega
      have hk2:(k:Int)≤(c:Int):=by omega
      have hN0:W0.heap.size≤wr.heap.size:=HS.out.1.size
      have HNEW:Hid (Whole (wr.alloc (.cells #[.int .u32 0] 72)) wr.heap.size 72 #[.int .u32 0]):=Lib.hid (Whole.new _ _ _)
      have HW:Hid (Below W0.heap.size W0 (wr.alloc (.cells #[.int .u32 (x:Nat)] 72))∧Whole (wr.alloc (.cells #[.int .u32 (x:Nat)] 72)) wr.heap.size 72 #[.int .u32 (x:Nat)]∧Below N wr (wr.alloc (.cells #[.int .u32 (x:Nat)] 72))):=Lib.hid ⟨HS.out.1.alloc hN0 _,Whole.new wr 72 #[.int .u32 (x:Nat)],(Below.refl N wr).alloc (Nat.le_trans HN0.out hN0) _⟩
      clear hx had hlt' hN0
      go_upto_region 7 with fail
      generalize (wr.alloc (.cells #[.int .u32 (x:Nat)] 72))=w2 at *
      generalize wr.heap.size=g at *
      clear c0 HNEW
      have HBW2:Hid (Below N w w2):=Lib.hid (HB0.out.1.trans (HW.out.1.mono HN0.out))
      have HSZ:Hid (N≤w2.heap.size):=Lib.hid (Nat.le_trans HN0.out HW.out.1.size)
      have cg:=HW.out.2.1
      have cg0:=cg.cell 0
      simp only [List.getElem?_toArray,List.getElem?_cons_zero,List.getElem?_cons_succ] at cg0
      clear cg
      obtain ⟨b,hb⟩:∃b,good x=b:=⟨_,rfl⟩
      have HC:=Lib.hid (HGD.out w2 x HBW2.out HM.out.1)
      rw [hb] at HC
      have HBG:=Lib.hid hb
      clear hb
      cases b with
      | false =>
        have HQ:Hid (r=false):=Lib.hid (by rw [←HR.out,all_no HM.out.1 HBG.out];simp)
        go_wp2_with (go_at_call 105;(with_reducible refine HC.out.mono ?_);rintro e w3 ⟨rfl,hb3⟩)
        go_ret
        exact ⟨ret_bool HQ.out.symm,HBW2.out.trans (hb3.mono HSZ.out)⟩
      | true =>
        obtain ⟨a,ha⟩:∃a,(L.take k).any (fun y=>((y:Nat):Int) == ((x:Nat):Int))=a:=⟨_,rfl⟩
        have HCO:Hid (∀w3,Below w2.heap.size w2 w3→Calls Tryz.prog 157 #[.slice (some ad) k c,.func (.func 156) #[] #[.pointer (some ⟨N,0,none⟩),.pointer (some ⟨g,0,none⟩)]] w3 fun e w'=>e=.returned (.bool a)∧Below w3.heap.size w3 w'):=Lib.hid fun w3 hb3=>by
         have hkey:w3.cell? ⟨N,0,none⟩=some (.func (.func 104) #[] #[]):=((HB0.out.2.under (HW.out.1.trans (hb3.mono HW.out.1.size))).cell 0)
         have hgx:=HW.out.2.1.under hb3
         have hsz:N≤w2.heap.size:=HSZ.out
         have hv3:=Rows.take (k:=k) (HV.out.below (HBW2.out.trans (hb3.mono hsz))) (by rw [HE.out];omega)
         have hv3:NumsV w3 w3.heap.size (.slice (some ad) k c) (L.take k):=NumsV.more hv3 (Nat.le_trans hsz hb3.size)
         have:=containsU_any (some ad) k c (L.take k) (fun y=>((y:Nat):Int) == ((x:Nat):Int)) (.pointer (some ⟨N,0,none⟩)) (.pointer (some ⟨g,0,none⟩)) w3 hv3 (by rw [List.length_take,HE.out];omega) (by omega)
          (fun W y hW' _=>by
            have h1:W.cell? ⟨N,0,none⟩=some (.func (.func 104) #[] #[]):=(hW'.cell (p:=⟨N,0,none⟩) (block_lt_of_cell hkey)).trans hkey
            have h2:=hgx.under hW'
            exact (alikeU_any y x N g W h1 (h2.cell 0)))
         rw [ha] at this
         exact this
        have HST:=Lib.hid (unlike_step (f:=id) (q:=(fun y=>((y:Nat):Int) == ((x:Nat):Int))) HM.out.2.1 HS.out.2.2 (fun y=>by rw [beq_iff_eq];simp only [id];omega))
        rw [ha] at HST
        clear ha
        cases a with
        | true =>
          have HQ:Hid (r=false):=Lib.hid (by rw [←HR.out,HST.out.1 rfl];simp)
          go_wp2_with (first | (go_at_call 105;(with_reducible refine HC.out.mono ?_);rintro e w3 ⟨rfl,hb3⟩;have HCC:=Lib.hid (HCO.out w3 hb3)) | (go_at_call 157;(with_reducible refine HCC.out.mono ?_);rintro e w4 ⟨rfl,hb4⟩))
          go_ret
          exact ⟨ret_bool HQ.out.symm,(HBW2.out.trans (hb3.mono HSZ.out)).trans (hb4.mono (Nat.le_trans HSZ.out hb3.size))⟩
        | false =>
          go_wp2_with (first | (go_at_call 105;(with_reducible refine HC.out.mono ?_);rintro e w3 ⟨rfl,hb3⟩;have HCC:=Lib.hid (HCO.out w3 hb3)) | (go_at_call 157;(with_reducible refine HCC.out.mono ?_);rintro e w4 ⟨rfl,hb4⟩))
          go_roundw
          case rel =>
           refine ⟨k+1,by omega,by go_num,(HW.out.1.trans (hb3.mono HW.out.1.size)).trans (hb4.mono (Nat.le_trans HW.out.1.size hb3.size)),fun j hj=> ?_,HST.out.2 (by first | rfl | trivial)⟩
           by_cases e:j=k
           · subst e
             rw [HM.out.2.2]
             exact HBG.out
           · exact HS.out.2.1 j (by omega)
          case measure=>simp [intOf];omega
    · have e:k=n:=by omega
      subst e
      have HQ:Hid (r=true):=Lib.hid (by
       rw [←HR.out,all_yesL HE.out HS.out.2.1]
       have:=HS.out.2.2
       rw [List.take_of_length_le (by rw [HE.out];exact Nat.le_refl _)] at this
       rw [this]
       simp [hm])
      have HBW:Hid (Below N w wr):=Lib.hid (HB0.out.1.trans (HS.out.1.mono HN0.out))
      go_wp2
      go_ret
      exact ⟨ret_bool HQ.out.symm,HBW.out⟩
 · have hmi:16<(n:Int):=by omega
   have HQ:Hid (r=false):=Lib.hid (by rw [←HR.out];simp [hm])
   go_enter Tryz.func103,Tryz.ntmps103
   go_wp2
   go_ret
   exact ⟨ret_bool HQ.out.symm,HB0.out.1⟩
set_option maxHeartbeats 3200000 in
set_option maxRecDepth 100000 in
theorem goodListE_any (A:Option Addr) (n c:Nat) (L:List ExtS) (good:ExtS→Bool) (w:World) (h:ExtsV w w.heap.size (.slice A n c) L) (hn:L.length=n) (hl:n≤140737488355328)
 (hg:∀(W:World) (x:ExtS),Below w.heap.size w W→x∈L→Calls Tryz.prog 99 #[.agg #[.int .i64 x.id,.string x.uri]] W fun e w'=>e=.returned (.bool (good x))∧Below W.heap.size W w') :
 Calls Tryz.prog 97 #[.slice A n c,.int .i64 14,.func (.func 98) #[] #[],.func (.func 99) #[] #[]] w fun e w'=>e=.returned (.bool (decide (n≤14) && L.all good && unlike ExtS.id L))∧Below w.heap.size w w':=by
 have hb0:Below w.heap.size w (w.alloc (.cells #[.func (.func 98) #[] #[]] 161)):=(Below.refl _ w).alloc (Nat.le_refl _) _
 have hz:=Whole.new w 161 #[.func (.func 98) #[] #[]]
 have hcap:n≤c∧c≤maxLen:=by
  obtain ⟨A',c',e1,e2,e3,-⟩:=Rows.form h
  injection e1 with e1 e1n e1c
  subst e1c
  exact ⟨by omega,e3⟩
 have HV:=Lib.hid h
 have HGD:=Lib.hid hg
 have HE:=Lib.hid hn
 have HB0:=Lib.hid (And.intro hb0 hz)
 obtain ⟨hc1,hc2⟩:=hcap
 unfold maxLen at hc2
 obtain ⟨r,hr⟩:∃r,(decide (n≤14) && L.all good && unlike ExtS.id L)=r:=⟨_,rfl⟩
 have HR:=Lib.hid hr
 rw [hr]
 clear h hg hn hb0 hz hr
 by_cases hm:n≤14
 · have hmi:(n:Int)≤14:=by omega
   obtain ⟨N,hN⟩:∃N,w.heap.size=N:=⟨_,rfl⟩
   rw [hN] at HB0 HV HGD ⊢
   go_enter Tryz.func97,Tryz.ntmps97
   go_upto_region 1 with fail
   generalize w.alloc (.cells #[.func (.func 98) #[] #[]] 161)=W0 at *
   have HN0:Hid (N≤W0.heap.size):=Lib.hid (Nat.le_of_lt HB0.out.2.lt)
   clear hN
   have hmf:∀(fn:Fn) (first cap:Array Value) (w:World),(Instr.makeFunc fn first cap).run Tryz.prog w=.ok (.func fn first cap) w:=fun _ _ _ _=>rfl
   go_wp2
   go_loopw [18] (fun s18 wr=>∃k:Nat,k≤n∧s18=.int .i64 k∧(Below W0.heap.size W0 wr∧(∀j,j<k→good (L.getD j default)=true)∧unlike ExtS.id (L.take k)=true)) (fun s18 _=>n - (intOf s18).toNat)
   case atStart=>exact ⟨0,by omega,rfl,Below.refl _ _,(fun j hj=>by omega),rfl⟩
   case round =>
    obtain ⟨k,hk,rfl,hst⟩:=hrel
    have HS:=Lib.hid hst
    clear hst
    by_cases hlt:k<n
    · have hlt':k<L.length:=by rw [HE.out];exact hlt
      have HBW:Hid (Below N w wr):=Lib.hid (HB0.out.1.trans (HS.out.1.mono HN0.out))
      obtain ⟨ad,c',e1,had,c0,c1⟩:=(HV.out.below HBW.out).at_ hlt'
      injection e1 with e1 e1n e1c
      clear e1n e1c
      subst e1
      obtain ⟨x,hx⟩:∃x,L.getD k default=x:=⟨_,rfl⟩
      have HM:Hid (x∈L∧L[k]? = some x∧L.getD k default=x):=Lib.hid ⟨by rw [←hx];exact getD_mem hlt',by rw [←hx];exact getD_of hlt',hx⟩
      rw [hx] at c0 c1
      have hk0:(0:Int)≤(k:Int):=by omega
      have hk1:(k:Int)<(n:Int):=by omega
      have hk2:(k:Int)≤(c:Int):=by omega
      have hN0:W0.heap.size≤wr.heap.size:=HS.out.1.size
      have HNEW:Hid (Whole (wr.alloc (.cells #[.int .i64 0,.string ⟨#[]⟩] 71)) wr.heap.size 71 #[.int .i64 0,.string ⟨#[]⟩]):=Lib.hid (Whole.new _ _ _)
      have HW:Hid (Below W0.heap.size W0 ((wr.alloc (.cells #[.int .i64 0,.string ⟨#[]⟩] 71)).setRow wr.heap.size #[.int .i64 x.id,.string x.uri])∧Whole ((wr.alloc (.cells #[.int .i64 0,.string ⟨#[]⟩] 71)).setRow wr.heap.size #[.int .i64 x.id,.string x.uri]) wr.heap.size 71 #[.int .i64 x.id,.string x.uri]∧Below N wr ((wr.alloc (.cells #[.int .i64 0,.string ⟨#[]⟩] 71)).setRow wr.heap.size #[.int .i64 x.id,.string x.uri])):=Lib.hid ⟨below_row (HS.out.1.alloc hN0 _) hN0 _,(Whole.new wr 71 #[.int .i64 0,.string ⟨#[]⟩]).row #[.int .i64 x.id,.string x.uri],below_row ((Below.refl N wr).alloc (Nat.le_trans HN0.out hN0) _) (Nat.le_trans HN0.out hN0) _⟩
      clear hx had hlt' hN0
      go_upto_region 7 with ((with_reducible refine wpList_storeS #[.int .i64 x.id,.string x.uri] ?_ 71 (.tmp 10) (.tmp 22) ?_ ?_ ?_ HNEW.out Tryz.sizeExt ?_ ?_ ?_ ?_);(with_reducible rfl);(with_reducible rfl);rfl;rfl;rfl;rfl;rfl)
      generalize ((wr.alloc (.cells #[.int .i64 0,.string ⟨#[]⟩] 71)).setRow wr.heap.size #[.int .i64 x.id,.string x.uri])=w2 at *
      generalize wr.heap.size=g at *
      clear c0 c1 HNEW
      have HBW2:Hid (Below N w w2):=Lib.hid (HB0.out.1.trans (HW.out.1.mono HN0.out))
      have HSZ:Hid (N≤w2.heap.size):=Lib.hid (Nat.le_trans HN0.out HW.out.1.size)
      have cg:=HW.out.2.1
      have cg0:=cg.cell 0;have cg1:=cg.cell 1
      simp only [List.getElem?_toArray,List.getElem?_cons_zero,List.getElem?_cons_succ] at cg0 cg1
      clear cg
      obtain ⟨b,hb⟩:∃b,good x=b:=⟨_,rfl⟩
      have HC:=Lib.hid (HGD.out w2 x HBW2.out HM.out.1)
      rw [hb] at HC
      have HBG:=Lib.hid hb
      clear hb
      cases b with
      | false =>
        have HQ:Hid (r=false):=Lib.hid (by rw [←HR.out,all_no HM.out.1 HBG.out];simp)
        go_wp2_with (go_at_call 99;(with_reducible refine HC.out.mono ?_);rintro e w3 ⟨rfl,hb3⟩)
        go_ret
        exact ⟨ret_bool HQ.out.symm,HBW2.out.trans (hb3.mono HSZ.out)⟩
      | true =>
        obtain ⟨a,ha⟩:∃a,(L.take k).any (fun y=>y.id == x.id)=a:=⟨_,rfl⟩
        have HCO:Hid (∀w3,Below w2.heap.size w2 w3→Calls Tryz.prog 153 #[.slice (some ad) k c,.func (.func 152) #[] #[.pointer (some ⟨N,0,none⟩),.pointer (some ⟨g,0,none⟩)]] w3 fun e w'=>e=.returned (.bool a)∧Below w3.heap.size w3 w'):=Lib.hid fun w3 hb3=>by
         have hkey:w3.cell? ⟨N,0,none⟩=some (.func (.func 98) #[] #[]):=((HB0.out.2.under (HW.out.1.trans (hb3.mono HW.out.1.size))).cell 0)
         have hgx:=HW.out.2.1.under hb3
         have hsz:N≤w2.heap.size:=HSZ.out
         have hv3:=Rows.take (k:=k) (HV.out.below (HBW2.out.trans (hb3.mono hsz))) (by rw [HE.out];omega)
         have hv3:ExtsV w3 w3.heap.size (.slice (some ad) k c) (L.take k):=ExtsV.more hv3 (Nat.le_trans hsz hb3.size)
         have:=containsE_any (some ad) k c (L.take k) (fun y=>y.id == x.id) (.pointer (some ⟨N,0,none⟩)) (.pointer (some ⟨g,0,none⟩)) w3 hv3 (by rw [List.length_take,HE.out];omega) (by omega)
          (fun W y hW' _=>by
            have h1:W.cell? ⟨N,0,none⟩=some (.func (.func 98) #[] #[]):=(hW'.cell (p:=⟨N,0,none⟩) (block_lt_of_cell hkey)).trans hkey
            have h2:=hgx.under hW'
            exact (alikeE_any y.id x.id _ _ N g W h1 h2))
         rw [ha] at this
         exact this
        have HST:=Lib.hid (unlike_step (f:=ExtS.id) (q:=(fun y=>y.id == x.id)) HM.out.2.1 HS.out.2.2 (fun y=>by rw [beq_iff_eq]))
        rw [ha] at HST
        clear ha
        cases a with
        | true =>
          have HQ:Hid (r=false):=Lib.hid (by rw [←HR.out,HST.out.1 rfl];simp)
          go_wp2_with (first | (go_at_call 99;(with_reducible refine HC.out.mono ?_);rintro e w3 ⟨rfl,hb3⟩;have HCC:=Lib.hid (HCO.out w3 hb3)) | (go_at_call 153;(with_reducible refine HCC.out.mono ?_);rintro e w4 ⟨rfl,hb4⟩))
          go_ret
          exact ⟨ret_bool HQ.out.symm,(HBW2.out.trans (hb3.mono HSZ.out)).trans (hb4.mono (Nat.le_trans HSZ.out hb3.size))⟩
        | false =>
          go_wp2_with (first | (go_at_call 99;(with_reducible refine HC.out.mono ?_);rintro e w3 ⟨rfl,hb3⟩;have HCC:=Lib.hid (HCO.out w3 hb3)) | (go_at_call 153;(with_reducible refine HCC.out.mono ?_);rintro e w4 ⟨rfl,hb4⟩))
          go_roundw
          case rel =>
           refine ⟨k+1,by omega,by go_num,(HW.out.1.trans (hb3.mono HW.out.1.size)).trans (hb4.mono (Nat.le_trans HW.out.1.size hb3.size)),fun j hj=> ?_,HST.out.2 (by first | rfl | trivial)⟩
           by_cases e:j=k
           · subst e
             rw [HM.out.2.2]
             exact HBG.out
           · exact HS.out.2.1 j (by omega)
          case measure=>simp [intOf];omega
    · have e:k=n:=by omega
      subst e
      have HQ:Hid (r=true):=Lib.hid (by
       rw [←HR.out,all_yesL HE.out HS.out.2.1]
       have:=HS.out.2.2
       rw [List.take_of_length_le (by rw [HE.out];exact Nat.le_refl _)] at this
       rw [this]
       simp [hm])
      have HBW:Hid (Below N w wr):=Lib.hid (HB0.out.1.trans (HS.out.1.mono HN0.out))
      go_wp2
      go_ret
      exact ⟨ret_bool HQ.out.symm,HBW.out⟩
 · have hmi:14<(n:Int):=by omega
   have HQ:Hid (r=false):=Lib.hid (by rw [←HR.out];simp [hm])
   go_enter Tryz.func97,Tryz.ntmps97
   go_wp2
   go_ret
   exact ⟨ret_bool HQ.out.symm,HB0.out.1⟩
set_option maxHeartbeats 3200000 in
set_option maxRecDepth 100000 in
theorem goodListC_any (A:Option Addr) (n c:Nat) (L:List CodecS) (good:CodecS→Bool) (w:World) (h:CodecsV w w.heap.size (.slice A n c) L) (hn:L.length=n) (hl:n≤140737488355328)
 (hg:∀(W:World) (x:CodecS) (vf:Value),Below w.heap.size w W→x∈L→TextsV W w.heap.size vf x.feedback→Calls Tryz.prog 96 #[.agg #[.int .i64 x.type,.string x.name,.int .i64 x.clock,.int .i64 x.chans,.string x.format,vf]] W fun e w'=>e=.returned (.bool (good x))∧Below W.heap.size W w') :
 Calls Tryz.prog 94 #[.slice A n c,.int .i64 16,.func (.func 95) #[] #[],.func (.func 96) #[] #[]] w fun e w'=>e=.returned (.bool (decide (n≤16) && L.all good && unlike CodecS.type L))∧Below w.heap.size w w':=by
 have hb0:Below w.heap.size w (w.alloc (.cells #[.func (.func 95) #[] #[]] 158)):=(Below.refl _ w).alloc (Nat.le_refl _) _
 have hz:=Whole.new w 158 #[.func (.func 95) #[] #[]]
 have hcap:n≤c∧c≤maxLen:=by
  obtain ⟨A',c',e1,e2,e3,-⟩:=Rows.form h
  injection e1 with e1 e1n e1c
  subst e1c
  exact ⟨by omega,e3⟩
 have HV:=Lib.hid h
 have HGD:=Lib.hid hg
 have HE:=Lib.hid hn
 have HB0:=Lib.hid (And.intro hb0 hz)
 obtain ⟨hc1,hc2⟩:=hcap
 unfold maxLen at hc2
 obtain ⟨r,hr⟩:∃r,(decide (n≤16) && L.all good && unlike CodecS.type L)=r:=⟨_,rfl⟩
 have HR:=Lib.hid hr
 rw [hr]
 clear h hg hn hb0 hz hr
 by_cases hm:n≤16
 · have hmi:(n:Int)≤16:=by omega
   obtain ⟨N,hN⟩:∃N,w.heap.size=N:=⟨_,rfl⟩
   rw [hN] at HB0 HV HGD ⊢
   go_enter Tryz.func94,Tryz.ntmps94
   go_upto_region 1 with fail
   generalize w.alloc (.cells #[.func (.func 95) #[] #[]] 158)=W0 at *
   have HN0:Hid (N≤W0.heap.size):=Lib.hid (Nat.le_of_lt HB0.out.2.lt)
   clear hN
   have hmf:∀(fn:Fn) (first cap:Array Value) (w:World),(Instr.makeFunc fn first cap).run Tryz.prog w=.ok (.func fn first cap) w:=fun _ _ _ _=>rfl
   go_wp2
   go_loopw [18] (fun s18 wr=>∃k:Nat,k≤n∧s18=.int .i64 k∧(Below W0.heap.size W0 wr∧(∀j,j<k→good (L.getD j default)=true)∧unlike CodecS.type (L.take k)=true)) (fun s18 _=>n - (intOf s18).toNat)
   case atStart=>exact ⟨0,by omega,rfl,Below.refl _ _,(fun j hj=>by omega),rfl⟩
   case round =>
    obtain ⟨k,hk,rfl,hst⟩:=hrel
    have HS:=Lib.hid hst
    clear hst
    by_cases hlt:k<n
    · have hlt':k<L.length:=by rw [HE.out];exact hlt
      have HBW:Hid (Below N w wr):=Lib.hid (HB0.out.1.trans (HS.out.1.mono HN0.out))
      obtain ⟨ad,c',vf,e1,had,c0,c1,c2,c3,c4,c5,cf⟩:=(HV.out.below HBW.out).at_ hlt'
      injection e1 with e1 e1n e1c
      clear e1n e1c
      subst e1
      obtain ⟨Af,kf,hvf,-⟩:=Rows.form cf
      obtain ⟨lf,hlf⟩:∃lf,(L.getD k default).feedback.length=lf:=⟨_,rfl⟩
      rw [hlf] at hvf
      subst hvf
      clear hlf
      obtain ⟨x,hx⟩:∃x,L.getD k default=x:=⟨_,rfl⟩
      have HM:Hid (x∈L∧L[k]? = some x∧L.getD k default=x∧TextsV wr N (.slice Af lf kf) x.feedback):=Lib.hid ⟨by rw [←hx];exact getD_mem hlt',by rw [←hx];exact getD_of hlt',hx,by rw [←hx];exact cf⟩
      rw [hx] at c0 c1 c2 c3 c4
      have hk0:(0:Int)≤(k:Int):=by omega
      have hk1:(k:Int)<(n:Int):=by omega
      have hk2:(k:Int)≤(c:Int):=by omega
      have hN0:W0.heap.size≤wr.heap.size:=HS.out.1.size
      have HNEW:Hid (Whole (wr.alloc (.cells #[.int .i64 0,.string ⟨#[]⟩,.int .i64 0,.int .i64 0,.string ⟨#[]⟩,.slice none 0 0] 31)) wr.heap.size 31 #[.int .i64 0,.string ⟨#[]⟩,.int .i64 0,.int .i64 0,.string ⟨#[]⟩,.slice none 0 0]):=Lib.hid (Whole.new _ _ _)
      have HW:Hid (Below W0.heap.size W0 ((wr.alloc (.cells #[.int .i64 0,.string ⟨#[]⟩,.int .i64 0,.int .i64 0,.string ⟨#[]⟩,.slice none 0 0] 31)).setRow wr.heap.size #[.int .i64 x.type,.string x.name,.int .i64 x.clock,.int .i64 x.chans,.string x.format,.slice Af lf kf])∧Whole ((wr.alloc (.cells #[.int .i64 0,.string ⟨#[]⟩,.int .i64 0,.int .i64 0,.string ⟨#[]⟩,.slice none 0 0] 31)).setRow wr.heap.size #[.int .i64 x.type,.string x.name,.int .i64 x.clock,.int .i64 x.chans,.string x.format,.slice Af lf kf]) wr.heap.size 31 #[.int .i64 x.type,.string x.name,.int .i64 x.clock,.int .i64 x.chans,.string x.format,.slice Af lf kf]∧Below N wr ((wr.alloc (.cells #[.int .i64 0,.string ⟨#[]⟩,.int .i64 0,.int .i64 0,.string ⟨#[]⟩,.slice none 0 0] 31)).setRow wr.heap.size #[.int .i64 x.type,.string x.name,.int .i64 x.clock,.int .i64 x.chans,.string x.format,.slice Af lf kf])):=Lib.hid ⟨below_row (HS.out.1.alloc hN0 _) hN0 _,(Whole.new wr 31 #[.int .i64 0,.string ⟨#[]⟩,.int .i64 0,.int .i64 0,.string ⟨#[]⟩,.slice none 0 0]).row #[.int .i64 x.type,.string x.name,.int .i64 x.clock,.int .i64 x.chans,.string x.format,.slice Af lf kf],below_row ((Below.refl N wr).alloc (Nat.le_trans HN0.out hN0) _) (Nat.le_trans HN0.out hN0) _⟩
      clear hx had hlt' hN0 cf
      go_upto_region 7 with ((with_reducible refine wpList_storeS #[.int .i64 x.type,.string x.name,.int .i64 x.clock,.int .i64 x.chans,.string x.format,.slice Af lf kf] ?_ 31 (.tmp 10) (.tmp 22) ?_ ?_ ?_ HNEW.out Tryz.sizeCodec ?_ ?_ ?_ ?_);(with_reducible rfl);(with_reducible rfl);rfl;rfl;rfl;rfl;rfl)
      generalize ((wr.alloc (.cells #[.int .i64 0,.string ⟨#[]⟩,.int .i64 0,.int .i64 0,.string ⟨#[]⟩,.slice none 0 0] 31)).setRow wr.heap.size #[.int .i64 x.type,.string x.name,.int .i64 x.clock,.int .i64 x.chans,.string x.format,.slice Af lf kf])=w2 at *
      generalize wr.heap.size=g at *
      clear c0 c1 c2 c3 c4 HNEW
      have HBW2:Hid (Below N w w2):=Lib.hid (HB0.out.1.trans (HW.out.1.mono HN0.out))
      have HSZ:Hid (N≤w2.heap.size):=Lib.hid (Nat.le_trans HN0.out HW.out.1.size)
      have cg:=HW.out.2.1
      have cg0:=cg.cell 0;have cg1:=cg.cell 1;have cg2:=cg.cell 2;have cg3:=cg.cell 3;have cg4:=cg.cell 4;have cg5:=cg.cell 5
      simp only [List.getElem?_toArray,List.getElem?_cons_zero,List.getElem?_cons_succ] at cg0 cg1 cg2 cg3 cg4 cg5
      clear cg
      obtain ⟨b,hb⟩:∃b,good x=b:=⟨_,rfl⟩
      have HC:=Lib.hid (HGD.out w2 x (.slice Af lf kf) HBW2.out HM.out.1 (HM.out.2.2.2.below HW.out.2.2))
      rw [hb] at HC
      have HBG:=Lib.hid hb
      clear hb
      cases b with
      | false =>
        have HQ:Hid (r=false):=Lib.hid (by rw [←HR.out,all_no HM.out.1 HBG.out];simp)
        go_wp2_with (go_at_call 96;(with_reducible refine HC.out.mono ?_);rintro e w3 ⟨rfl,hb3⟩)
        go_ret
        exact ⟨ret_bool HQ.out.symm,HBW2.out.trans (hb3.mono HSZ.out)⟩
      | true =>
        obtain ⟨a,ha⟩:∃a,(L.take k).any (fun y=>y.type == x.type)=a:=⟨_,rfl⟩
        have HCO:Hid (∀w3,Below w2.heap.size w2 w3→Calls Tryz.prog 148 #[.slice (some ad) k c,.func (.func 147) #[] #[.pointer (some ⟨N,0,none⟩),.pointer (some ⟨g,0,none⟩)]] w3 fun e w'=>e=.returned (.bool a)∧Below w3.heap.size w3 w'):=Lib.hid fun w3 hb3=>by
         have hkey:w3.cell? ⟨N,0,none⟩=some (.func (.func 95) #[] #[]):=((HB0.out.2.under (HW.out.1.trans (hb3.mono HW.out.1.size))).cell 0)
         have hgx:=HW.out.2.1.under hb3
         have hsz:N≤w2.heap.size:=HSZ.out
         have hv3:=Rows.take (k:=k) (HV.out.below (HBW2.out.trans (hb3.mono hsz))) (by rw [HE.out];omega)
         have hv3:CodecsV w3 w3.heap.size (.slice (some ad) k c) (L.take k):=CodecsV.more hv3 (Nat.le_trans hsz hb3.size)
         have:=containsC_any (some ad) k c (L.take k) (fun y=>y.type == x.type) (.pointer (some ⟨N,0,none⟩)) (.pointer (some ⟨g,0,none⟩)) w3 hv3 (by rw [List.length_take,HE.out];omega) (by omega)
          (fun W y vf hW' _=>by
            have h1:W.cell? ⟨N,0,none⟩=some (.func (.func 95) #[] #[]):=(hW'.cell (p:=⟨N,0,none⟩) (block_lt_of_cell hkey)).trans hkey
            have h2:=hgx.under hW'
            exact (alikeC_any y.type x.type _ _ _ _ _ _ _ _ _ _ N g W h1 h2))
         rw [ha] at this
         exact this
        have HST:=Lib.hid (unlike_step (f:=CodecS.type) (q:=(fun y=>y.type == x.type)) HM.out.2.1 HS.out.2.2 (fun y=>by rw [beq_iff_eq]))
        rw [ha] at HST
        clear ha
        cases a with
        | true =>
          have HQ:Hid (r=false):=Lib.hid (by rw [←HR.out,HST.out.1 rfl];simp)
          go_wp2_with (first | (go_at_call 96;(with_reducible refine HC.out.mono ?_);rintro e w3 ⟨rfl,hb3⟩;have HCC:=Lib.hid (HCO.out w3 hb3)) | (go_at_call 148;(with_reducible refine HCC.out.mono ?_);rintro e w4 ⟨rfl,hb4⟩))
          go_ret
          exact ⟨ret_bool HQ.out.symm,(HBW2.out.trans (hb3.mono HSZ.out)).trans (hb4.mono (Nat.le_trans HSZ.out hb3.size))⟩
        | false =>
          go_wp2_with (first | (go_at_call 96;(with_reducible refine HC.out.mono ?_);rintro e w3 ⟨rfl,hb3⟩;have HCC:=Lib.hid (HCO.out w3 hb3)) | (go_at_call 148;(with_reducible refine HCC.out.mono ?_);rintro e w4 ⟨rfl,hb4⟩))
          go_roundw
          case rel =>
           refine ⟨k+1,by omega,by go_num,(HW.out.1.trans (hb3.mono HW.out.1.size)).trans (hb4.mono (Nat.le_trans HW.out.1.size hb3.size)),fun j hj=> ?_,HST.out.2 (by first | rfl | trivial)⟩
           by_cases e:j=k
           · subst e
             rw [HM.out.2.2.1]
             exact HBG.out
           · exact HS.out.2.1 j (by omega)
          case measure=>simp [intOf];omega
    · have e:k=n:=by omega
      subst e
      have HQ:Hid (r=true):=Lib.hid (by
       rw [←HR.out,all_yesL HE.out HS.out.2.1]
       have:=HS.out.2.2
       rw [List.take_of_length_le (by rw [HE.out];exact Nat.le_refl _)] at this
       rw [this]
       simp [hm])
      have HBW:Hid (Below N w wr):=Lib.hid (HB0.out.1.trans (HS.out.1.mono HN0.out))
      go_wp2
      go_ret
      exact ⟨ret_bool HQ.out.symm,HBW.out⟩
 · have hmi:16<(n:Int):=by omega
   have HQ:Hid (r=false):=Lib.hid (by rw [←HR.out];simp [hm])
   go_enter Tryz.func94,Tryz.ntmps94
   go_wp2
   go_ret
   exact ⟨ret_bool HQ.out.symm,HB0.out.1⟩
theorem run_loadVar_at {P:Program} (w:World) (p:Addr) (ty:TypeId) (cs:List Value) (d:TypeDesc) (hc:∀j v,cs[j]? = some v→w.cell? (p.add j)=some v)
 (hu:P.underlying ty=some d) (hd:d.isRow=true) (hi:(P.info? ty).map (·.size)=some cs.length):(loadVar ty p).run P w=.ok (.agg cs.toArray) w:=by
 have hl:(loadCells p cs.length).run P w=.ok cs.toArray w:=run_loadCells_list (P:=P) w p cs hc
 cases hq:P.info? ty with
 | none=>simp [hq] at hi
 | some i =>
   have hs:i.size=cs.length:=by simpa [hq] using hi
   have hagg:(isAgg ty).run P w=.ok true w:=by
    unfold isAgg
    rw [Sem.run_bind,run_underlying hu w]
    cases d <;> simp_all
   simp [loadVar,Sem.run_bind,hagg,sizeOf,typeInfo,hq,hs,hl]
theorem wp_load_at {op:Oper} {a:Act} {w:World} {K:Act→World→Prop} {Q:Exit→Act→World→Prop} (ty:TypeId) (x:Operand) (ho:op.op=.load ty x) (p:Addr) (hx:a.eval x=.pointer (some p)) (cs:List Value) (d:TypeDesc)
 (hc:∀j v,cs[j]? = some v→w.cell? (p.add j)=some v) (hu:Tryz.prog.underlying ty=some d) (hd:d.isRow=true) (hi:(Tryz.prog.info? ty).map (·.size)=some cs.length)
 (h:K (a.put op.dst (.agg cs.toArray)) w):op.wp Tryz.prog a w K Q:=by
 unfold Oper.wp execOp
 simp only [ho,hx,Instr.loadAt,Instr.sureAddr,Sem.run_bind,Sem.run_pure,Result.andThen_ok,run_loadVar_at w p ty cs d hc hu hd hi]
 exact h
theorem wpList_load_at {ops:Array Oper} {rest:List Oper} {op:Oper} {a:Act} {w:World} {Q:Exit→Act→World→Prop} (hgd:op.guard=none) (ty:TypeId) (x:Operand) (ho:op.op=.load ty x) (p:Addr) (hx:a.eval x=.pointer (some p)) (cs:List Value) (d:TypeDesc)
 (hc:∀j v,cs[j]? = some v→w.cell? (p.add j)=some v) (hu:Tryz.prog.underlying ty=some d) (hd:d.isRow=true) (hi:(Tryz.prog.info? ty).map (·.size)=some cs.length)
 (h:wpList Tryz.prog ops Q rest (a.put op.dst (.agg cs.toArray)) w):wpList Tryz.prog ops Q (op :: rest) a w :=
 wpList_plain hgd fun _ hK=>wp_load_at ty x ho p hx cs d hc hu hd hi (hK _ _ h)
theorem yieldsIf_load_at {ops:Array Oper} {S:World→Prop} {op:Oper} {a:Act} (hw:Region.wanted op (yielded ops a.tmps)=true) (ty:TypeId) (x:Operand) (ho:op.op=.load ty x) (p:Addr) (hx:a.eval x=.pointer (some p)) (cs:List Value) (d:TypeDesc)
 (hS:∀w,S w→∀j v,cs[j]? = some v→w.cell? (p.add j)=some v) (hu:Tryz.prog.underlying ty=some d) (hd:d.isRow=true) (hi:(Tryz.prog.info? ty).map (·.size)=some cs.length):YieldsIf Tryz.prog ops S op (.agg cs.toArray) a :=
 .inl ⟨hw,fun w hw'=>by
  unfold execOp
  simp only [ho,hx,Instr.loadAt,Instr.sureAddr,Sem.run_bind,Sem.run_pure,Result.andThen_ok,run_loadVar_at w p ty cs d (hS w hw') hu hd hi]⟩
theorem cryC_len {c:CryptoS} (h:c.key.length=30):(cryC c).length=31:=by simp [cryC,keyC,h]
theorem cryC_one (c:CryptoS):(cryC c).toArray.toList.all (·.oneCell')=true:=by
 rw [List.all_eq_true]
 intro v hv
 simp only [cryC,keyC,List.mem_cons,List.mem_map] at hv
 rcases hv with rfl | ⟨_,_,rfl⟩ <;> rfl
theorem CrysV.at_ {w:World} {B:Nat} {v:Value} {L:List CryptoS} (h:CrysV w B v L) {i:Nat} (hi:i<L.length):∃ad c,v=.slice (some ad) L.length c∧ad.block<B∧(L.getD i default).key.length=30 ∧
 ∀j u,(cryC (L.getD i default))[j]? = some u→w.cell? ((ad.add (i * 31)).add j)=some u:=by
 obtain ⟨ad,c,h1,h2,_,_,h3,h4⟩:=Rows.at_ h (List.getElem?_eq_getElem hi)
 have e:L.getD i default=L[i]:=by simp [List.getD,hi]
 rw [e]
 refine ⟨ad,c,h1,h2,h3,fun j u hu=> ?_⟩
 have hj:j<31:=by
  have:=(List.getElem?_eq_some_iff.1 hu).1
  rw [cryC_len h3] at this
  exact this
 rw [Go.Deep.add_add]
 exact (h4 j hj).trans hu
set_option maxHeartbeats 6400000 in
set_option maxRecDepth 100000 in
theorem goodListY_any (A:Option Addr) (n c:Nat) (L:List CryptoS) (w:World) (h:CrysV w w.heap.size (.slice A n c) L) (hn:L.length=n) (hl:n≤140737488355328) :
 Calls Tryz.prog 106 #[.slice A n c,.int .i64 1,.func (.func 107) #[] #[],.func (.func 108) #[] #[]] w fun e w'=>e=.returned (.bool (decide (n≤1) && L.all goodY))∧Below w.heap.size w w':=by
 have hb0:Below w.heap.size w (w.alloc (.cells #[.func (.func 107) #[] #[]] 168)):=(Below.refl _ w).alloc (Nat.le_refl _) _
 have hcap:n≤c∧c≤maxLen:=by
  obtain ⟨A',c',e1,e2,e3,-⟩:=Rows.form h
  injection e1 with e1 e1n e1c
  subst e1c
  exact ⟨by omega,e3⟩
 have HV:=Lib.hid h
 have HE:=Lib.hid hn
 have HB0:=Lib.hid hb0
 have HN0:Hid (w.heap.size≤(w.alloc (.cells #[.func (.func 107) #[] #[]] 168)).heap.size):=Lib.hid hb0.size
 obtain ⟨hc1,hc2⟩:=hcap
 unfold maxLen at hc2
 obtain ⟨r,hr⟩:∃r,(decide (n≤1) && L.all goodY)=r:=⟨_,rfl⟩
 have HR:=Lib.hid hr
 rw [hr]
 clear h hn hb0 hr
 by_cases hm:n≤1
 · have hmi:(n:Int)≤1:=by omega
   obtain ⟨N,hN⟩:∃N,w.heap.size=N:=⟨_,rfl⟩
   rw [hN] at HB0 HV HN0 ⊢
   go_enter Tryz.func106,Tryz.ntmps106
   go_upto_region 1 with fail
   generalize w.alloc (.cells #[.func (.func 107) #[] #[]] 168)=W0 at *
   clear hN
   have hmf:∀(fn:Fn) (first cap:Array Value) (w:World),(Instr.makeFunc fn first cap).run Tryz.prog w=.ok (.func fn first cap) w:=fun _ _ _ _=>rfl
   go_wp2
   go_loopw [18] (fun s18 wr=>∃k:Nat,k≤n∧s18=.int .i64 k∧(Below W0.heap.size W0 wr∧(∀j,j<k→goodY (L.getD j default)=true))) (fun s18 _=>n - (intOf s18).toNat)
   case atStart=>exact ⟨0,by omega,rfl,Below.refl _ _,(fun j hj=>by omega)⟩
   case round =>
    obtain ⟨k,hk,rfl,hst⟩:=hrel
    have HS:=Lib.hid hst
    clear hst
    by_cases hlt:k<n
    · have hlt':k<L.length:=by rw [HE.out];exact hlt
      have HBW:Hid (Below N w wr):=Lib.hid (HB0.out.trans (HS.out.1.mono HN0.out))
      obtain ⟨ad,c',e1,had,c30,cj⟩:=(HV.out.below HBW.out).at_ hlt'
      injection e1 with e1 e1n e1c
      clear e1n e1c
      subst e1
      obtain ⟨x,hx⟩:∃x,L.getD k default=x:=⟨_,rfl⟩
      have HM:Hid (x∈L∧L.getD k default=x):=Lib.hid ⟨by rw [←hx];exact getD_mem hlt',hx⟩
      rw [hx] at c30 cj
      have HJ:=Lib.hid cj
      have H31:Hid ((cryC x).length=31):=Lib.hid (cryC_len c30)
      have HK0:Hid (k=0):=Lib.hid (by omega)
      have hk0:(0:Int)≤(k:Int):=by omega
      have hk1:(k:Int)<(n:Int):=by omega
      have hk2:(k:Int)≤(c:Int):=by omega
      have hN0:W0.heap.size≤wr.heap.size:=HS.out.1.size
      obtain ⟨X,hX⟩:∃X,(cryC x).toArray=X:=⟨_,rfl⟩
      have HX:Hid ((cryC x).toArray=X∧X.size=31∧X.toList.all (·.oneCell')=true):=Lib.hid ⟨hX,by rw [←hX];simpa using H31.out,by rw [←hX];exact cryC_one x⟩
      have HNEW:Hid (Whole (wr.alloc (.cells #[.int .i64 0,.int .u8 0,.int .u8 0,.int .u8 0,.int .u8 0,.int .u8 0,.int .u8 0,.int .u8 0,.int .u8 0,.int .u8 0,.int .u8 0,.int .u8 0,.int .u8 0,.int .u8 0,.int .u8 0,.int .u8 0,.int .u8 0,.int .u8 0,.int .u8 0,.int .u8 0,.int .u8 0,.int .u8 0,.int .u8 0,.int .u8 0,.int .u8 0,.int .u8 0,.int .u8 0,.int .u8 0,.int .u8 0,.int .u8 0,.int .u8 0] 75)) wr.heap.size 75 #[.int .i64 0,.int .u8 0,.int .u8 0,.int .u8 0,.int .u8 0,.int .u8 0,.int .u8 0,.int .u8 0,.int .u8 0,.int .u8 0,.int .u8 0,.int .u8 0,.int .u8 0,.int .u8 0,.int .u8 0,.int .u8 0,.int .u8 0,.int .u8 0,.int .u8 0,.int .u8 0,.int .u8 0,.int .u8 0,.int .u8 0,.int .u8 0,.int .u8 0,.int .u8 0,.int .u8 0,.int .u8 0,.int .u8 0,.int .u8 0,.int .u8 0]):=Lib.hid (Whole.new _ _ _)
      have HW:Hid (Below W0.heap.size W0 ((wr.alloc (.cells #[.int .i64 0,.int .u8 0,.int .u8 0,.int .u8 0,.int .u8 0,.int .u8 0,.int .u8 0,.int .u8 0,.int .u8 0,.int .u8 0,.int .u8 0,.int .u8 0,.int .u8 0,.int .u8 0,.int .u8 0,.int .u8 0,.int .u8 0,.int .u8 0,.int .u8 0,.int .u8 0,.int .u8 0,.int .u8 0,.int .u8 0,.int .u8 0,.int .u8 0,.int .u8 0,.int .u8 0,.int .u8 0,.int .u8 0,.int .u8 0,.int .u8 0] 75)).setRow wr.heap.size X)∧Whole ((wr.alloc (.cells #[.int .i64 0,.int .u8 0,.int .u8 0,.int .u8 0,.int .u8 0,.int .u8 0,.int .u8 0,.int .u8 0,.int .u8 0,.int .u8 0,.int .u8 0,.int .u8 0,.int .u8 0,.int .u8 0,.int .u8 0,.int .u8 0,.int .u8 0,.int .u8 0,.int .u8 0,.int .u8 0,.int .u8 0,.int .u8 0,.int .u8 0,.int .u8 0,.int .u8 0,.int .u8 0,.int .u8 0,.int .u8 0,.int .u8 0,.int .u8 0,.int .u8 0] 75)).setRow wr.heap.size X) wr.heap.size 75 X):=Lib.hid ⟨below_row (HS.out.1.alloc hN0 _) hN0 _,(Whole.new wr 75 #[.int .i64 0,.int .u8 0,.int .u8 0,.int .u8 0,.int .u8 0,.int .u8 0,.int .u8 0,.int .u8 0,.int .u8 0,.int .u8 0,.int .u8 0,.int .u8 0,.int .u8 0,.int .u8 0,.int .u8 0,.int .u8 0,.int .u8 0,.int .u8 0,.int .u8 0,.int .u8 0,.int .u8 0,.int .u8 0,.int .u8 0,.int .u8 0,.int .u8 0,.int .u8 0,.int .u8 0,.int .u8 0,.int .u8 0,.int .u8 0,.int .u8 0]).row X⟩
      have HLD:Hid (∀(ops:Array Oper) (rest:List Oper) (op:Oper) (a:Act) (Q:Exit→Act→World→Prop),op.guard=none→op.op=.load 75 (.tmp 21)→a.eval (.tmp 21)=.pointer (some (ad.add (k * 31)))→wpList Tryz.prog ops Q rest (a.put op.dst (.agg X)) wr→wpList Tryz.prog ops Q (op :: rest) a wr) :=
       Lib.hid fun ops rest op a Q h1 h2 h3 h4=>wpList_load_at h1 75 (.tmp 21) h2 _ h3 (cryC x) _ HJ.out Tryz.underlying75 rfl (by rw [H31.out];exact Tryz.sizeCrypto) (by rw [HX.out.1];exact h4)
      clear hx had hlt' hN0 cj c30 hX HJ H31
      go_upto_region 7 with (first | ((with_reducible refine HLD.out _ _ _ _ _ ?_ ?_ ?_ ?_);(with_reducible rfl);(with_reducible rfl);rfl) | ((with_reducible refine wpList_storeS X ?_ 75 (.tmp 10) (.tmp 22) ?_ ?_ ?_ HNEW.out Tryz.sizeCrypto HX.out.2.1 ?_ HX.out.2.2 ?_);(with_reducible rfl);(with_reducible rfl);rfl;rfl;rfl))
      generalize ((wr.alloc (.cells #[.int .i64 0,.int .u8 0,.int .u8 0,.int .u8 0,.int .u8 0,.int .u8 0,.int .u8 0,.int .u8 0,.int .u8 0,.int .u8 0,.int .u8 0,.int .u8 0,.int .u8 0,.int .u8 0,.int .u8 0,.int .u8 0,.int .u8 0,.int .u8 0,.int .u8 0,.int .u8 0,.int .u8 0,.int .u8 0,.int .u8 0,.int .u8 0,.int .u8 0,.int .u8 0,.int .u8 0,.int .u8 0,.int .u8 0,.int .u8 0,.int .u8 0] 75)).setRow wr.heap.size X)=w2 at *
      generalize wr.heap.size=g at *
      clear HNEW HLD
      have HBW2:Hid (Below N w w2):=Lib.hid (HB0.out.trans (HW.out.1.mono HN0.out))
      have HSZ:Hid (N≤w2.heap.size):=Lib.hid (Nat.le_trans HN0.out HW.out.1.size)
      obtain ⟨b,hb⟩:∃b,goodY x=b:=⟨_,rfl⟩
      have HC:Hid (Calls Tryz.prog 108 #[.agg X] w2 fun e w'=>e=.returned (.bool b)∧Below w2.heap.size w2 w'):=Lib.hid (by
       rw [←hb,←HX.out.1]
       exact goodCrypto_any x.tag (keyC x.key) w2 (by have:=HX.out.2.1;rw [←HX.out.1] at this;simpa [cryC] using this))
      have HBG:=Lib.hid hb
      clear hb
      obtain rfl:=HK0.out
      cases b with
      | false =>
        have HQ:Hid (r=false):=Lib.hid (by rw [←HR.out,all_no HM.out.1 HBG.out];simp)
        go_wp2_with (first | ((with_reducible refine wpList_load_all ?_ 75 (.tmp 10) ?_ HW.out.2 ?_ Tryz.sizeCrypto HX.out.2.1 Tryz.underlying75 ?_ ?_);(with_reducible rfl);(with_reducible rfl);rfl;rfl) | (go_at_call 108;(with_reducible refine HC.out.mono ?_);rintro e w3 ⟨rfl,hb3⟩))
        go_ret
        exact ⟨ret_bool HQ.out.symm,HBW2.out.trans (hb3.mono HSZ.out)⟩
      | true =>
        have HCO:Hid (∀f w3,Calls Tryz.prog 159 #[.slice (some ad) 0 c,f] w3 fun e w'=>e=.returned (.bool false)∧w3=w'):=Lib.hid fun f w3=>containsY_none _ _ _ _
        go_wp2_with (first | ((with_reducible refine wpList_load_all ?_ 75 (.tmp 10) ?_ HW.out.2 ?_ Tryz.sizeCrypto HX.out.2.1 Tryz.underlying75 ?_ ?_);(with_reducible rfl);(with_reducible rfl);rfl;rfl) | (go_at_call 108;(with_reducible refine HC.out.mono ?_);rintro e w3 ⟨rfl,hb3⟩) | (go_at_call 159;(with_reducible refine (HCO.out _ _).mono ?_);rintro e w4 ⟨rfl,rfl⟩))
        go_roundw
        case rel =>
         refine ⟨1,by omega,by go_num,HW.out.1.trans (hb3.mono HW.out.1.size),fun j hj=> ?_⟩
         obtain rfl:j=0:=by omega
         rw [HM.out.2]
         exact HBG.out
        case measure=>simp [intOf];omega
    · have e:k=n:=by omega
      subst e
      have HQ:Hid (r=true):=Lib.hid (by
       rw [←HR.out,all_yesL HE.out HS.out.2]
       simp [hm])
      have HBW:Hid (Below N w wr):=Lib.hid (HB0.out.trans (HS.out.1.mono HN0.out))
      go_wp2
      go_ret
      exact ⟨ret_bool HQ.out.symm,HBW.out⟩
 · have hmi:1<(n:Int):=by omega
   have HQ:Hid (r=false):=Lib.hid (by rw [←HR.out];simp [hm])
   go_enter Tryz.func106,Tryz.ntmps106
   go_wp2
   go_ret
   exact ⟨ret_bool HQ.out.symm,HB0.out⟩
theorem any_not {α:Type} (L:List α) (q:α→Bool):(!(L.any fun x=>!q x))=L.all q:=by
 induction L with
 | nil=>rfl
 | cons a r ih=>rw [List.any_cons,List.all_cons,←ih];cases q a <;> simp
set_option maxHeartbeats 6400000 in
set_option maxRecDepth 100000 in
theorem goodCodec_any (x:CodecS) (Af:Option Addr) (lf kf:Nat) (w:World) (h:TextsV w w.heap.size (.slice Af lf kf) x.feedback) (hs:x.name.size≤140737488355328∧x.format.size≤140737488355328∧∀f∈x.feedback,f.size≤140737488355328) (hl:x.feedback.length≤140737488355328) :
 Calls Tryz.prog 96 #[.agg #[.int .i64 x.type,.string x.name,.int .i64 x.clock,.int .i64 x.chans,.string x.format,.slice Af lf kf]] w fun e w'=>e=.returned (.bool (goodC x))∧Below w.heap.size w w':=by
 obtain ⟨ty,nm,ck,ch,fm,fb⟩:=x
 have hs:nm.size≤140737488355328∧fm.size≤140737488355328∧∀f∈fb,f.size≤140737488355328:=hs
 have hl:fb.length≤140737488355328:=hl
 have h:TextsV w w.heap.size (.slice Af lf kf) fb:=h
 have hlf:lf=fb.length:=by
  obtain ⟨_,_,e,-⟩:=Rows.form h
  injection e
 have hb0:Below w.heap.size w (w.alloc (.cells #[.int .i64 ty,.string nm,.int .i64 ck,.int .i64 ch,.string fm,.slice Af lf kf] 31)):=(Below.refl _ w).alloc (Nat.le_refl _) _
 have hz:=Whole.new w 31 #[.int .i64 ty,.string nm,.int .i64 ck,.int .i64 ch,.string fm,.slice Af lf kf]
 have c0:=hz.cell 0
 have c1:=hz.cell 1
 have c2:=hz.cell 2
 have c3:=hz.cell 3
 have c4:=hz.cell 4
 have c5:=hz.cell 5
 simp only [List.getElem?_toArray,List.getElem?_cons_zero,List.getElem?_cons_succ] at c0 c1 c2 c3 c4 c5
 have HB:=Lib.hid (And.intro hb0 (h.below hb0))
 have hx:goodC ⟨ty,nm,ck,ch,fm,fb⟩=((decide (0≤ty) && decide (ty≤127)) && (wordP 1 32 (tx nm) && ((decide (1≤ck) && decide (ck≤1000000)) && ((decide (1≤ch) && decide (ch≤2)) && (((tx fm).isEmpty || plainP (tx fm)) && (decide (lf≤8) && !(fb.any fun f=>!plainP (tx f)))))))):=by
  rw [any_not,hlf]
  unfold goodC
  simp only [Bool.and_assoc]
 show Calls _ _ _ _ fun e w'=>e=.returned (.bool (goodC ⟨ty,nm,ck,ch,fm,fb⟩))∧_
 have hmt:fm.toList.isEmpty=(tx fm).isEmpty:=by rw [toList_tx]
 have HWI:Hid (∀n a b W,Calls Tryz.prog 45 #[.int .i64 n,.int .i64 a,.int .i64 b] W fun e w'=>e=.returned (.bool (decide (a≤n) && decide (n≤b)))∧W=w'):=Lib.hid fun n a b W=>within_any n a b W
 have HWO:=Lib.hid (word_any nm (w.alloc (.cells #[.int .i64 ty,.string nm,.int .i64 ck,.int .i64 ch,.string fm,.slice Af lf kf] 31)) (by unfold maxLen;omega))
 have HFO:=Lib.hid (goodFormat_any fm (w.alloc (.cells #[.int .i64 ty,.string nm,.int .i64 ck,.int .i64 ch,.string fm,.slice Af lf kf] 31)) (by unfold maxLen;omega))
 have HCO:Hid (∀W,Below w.heap.size w W→TextsV W w.heap.size (.slice Af lf kf) fb→Calls Tryz.prog 150 #[.slice Af lf kf,.func (.func 151) #[] #[]] W fun e w'=>e=.returned (.bool (fb.any fun f=>!plainP (tx f)))∧Below W.heap.size W w'):=Lib.hid fun W hW hv =>
  containsB_any Af lf kf fb (fun f=>!plainP (tx f)) W (hv.more hW.size) hlf.symm (by omega) fun W' f _ hf=>(badFormat_any f W' (by have:=hs.2.2 f hf;unfold maxLen;omega)).mono fun e w' ⟨h1,h2⟩=>⟨h1,h2 ▸ Below.refl _ _⟩
 have HT1:=Lib.hid (HWI.out ty 0 127 (w.alloc (.cells #[.int .i64 ty,.string nm,.int .i64 ck,.int .i64 ch,.string fm,.slice Af lf kf] 31)))
 have HT2:=Lib.hid (HWI.out ck 1 1000000 (w.alloc (.cells #[.int .i64 ty,.string nm,.int .i64 ck,.int .i64 ch,.string fm,.slice Af lf kf] 31)))
 have HT3:=Lib.hid (HWI.out ch 1 2 (w.alloc (.cells #[.int .i64 ty,.string nm,.int .i64 ck,.int .i64 ch,.string fm,.slice Af lf kf] 31)))
 have HC1:=Lib.hid (HCO.out _ HB.out.1 HB.out.2)
 have HX:=Lib.hid hx
 have hlm:lf≤140737488355328:=by omega
 clear hb0 hz h HWI hx hs hl HCO hlf
 generalize goodC ⟨ty,nm,ck,ch,fm,fb⟩=r at *
 generalize (decide ((0:Int)≤ty) && decide (ty≤127))=t1 at *
 generalize (decide ((1:Int)≤ck) && decide (ck≤1000000))=t2 at *
 generalize (decide ((1:Int)≤ch) && decide (ch≤2))=t3 at *
 generalize (fb.any fun f=>!plainP (tx f))=t4 at *
 generalize wordP 1 32 (tx nm)=q1 at *
 generalize plainP (tx fm)=q2 at *
 generalize (tx fm).isEmpty=q3 at *
 obtain ⟨N,hN⟩:∃N,w.heap.size=N:=⟨_,rfl⟩
 rw [hN] at c0 c1 c2 c3 c4 c5 HB ⊢
 go_enter Tryz.func96,Tryz.ntmps96
 go_upto_region 1 with fail
 generalize w.alloc (.cells #[.int .i64 ty,.string nm,.int .i64 ck,.int .i64 ch,.string fm,.slice Af lf kf] 31)=W at *
 have HSZ:Hid (N≤W.heap.size):=Lib.hid (by have:=HB.out.1.size;omega)
 clear hN
 cases t1 with
 | false =>
   have HQ:Hid (r=false):=Lib.hid (by rw [HX.out];simp)
   go_wp2_with (first | (go_at_call 45;(with_reducible refine HT1.out.mono ?_);rintro e w' ⟨rfl,rfl⟩))
   go_ret
   exact ⟨ret_bool HQ.out.symm,HB.out.1⟩
 | true =>
   cases q1 with
   | false =>
     have HQ:Hid (r=false):=Lib.hid (by rw [HX.out];simp)
     go_wp2_with (first | (go_at_call 45;(with_reducible refine HT1.out.mono ?_);rintro e w' ⟨rfl,rfl⟩) | (go_at_call 93;(with_reducible refine HWO.out.mono ?_);rintro e w' ⟨rfl,rfl⟩))
     go_ret
     exact ⟨ret_bool HQ.out.symm,HB.out.1⟩
   | true =>
     cases t2 with
     | false =>
       have HQ:Hid (r=false):=Lib.hid (by rw [HX.out];simp)
       go_wp2_with (first | (go_at_call 45;(with_reducible refine HT1.out.mono ?_);rintro e w' ⟨rfl,rfl⟩) | (go_at_call 93;(with_reducible refine HWO.out.mono ?_);rintro e w' ⟨rfl,rfl⟩) | (go_at_call 45;(with_reducible refine HT2.out.mono ?_);rintro e w' ⟨rfl,rfl⟩))
       go_ret
       exact ⟨ret_bool HQ.out.symm,HB.out.1⟩
     | true =>
       cases t3 with
       | false =>
         have HQ:Hid (r=false):=Lib.hid (by rw [HX.out];simp)
         go_wp2_with (first | (go_at_call 45;(with_reducible refine HT1.out.mono ?_);rintro e w' ⟨rfl,rfl⟩) | (go_at_call 93;(with_reducible refine HWO.out.mono ?_);rintro e w' ⟨rfl,rfl⟩) | (go_at_call 45;(with_reducible refine HT2.out.mono ?_);rintro e w' ⟨rfl,rfl⟩) | (go_at_call 45;(with_reducible refine HT3.out.mono ?_);rintro e w' ⟨rfl,rfl⟩))
         go_ret
         exact ⟨ret_bool HQ.out.symm,HB.out.1⟩
       | true =>
         cases q3 with
         | true =>
           by_cases hlt:lf≤8
           · have hl8:(lf:Int)≤8:=by omega
             have HQ:Hid ((!t4)=r):=Lib.hid (by rw [HX.out];simp [hlt])
             go_wp2_with (first | (go_at_call 45;(with_reducible refine HT1.out.mono ?_);rintro e w' ⟨rfl,rfl⟩) | (go_at_call 93;(with_reducible refine HWO.out.mono ?_);rintro e w' ⟨rfl,rfl⟩) | (go_at_call 45;(with_reducible refine HT2.out.mono ?_);rintro e w' ⟨rfl,rfl⟩) | (go_at_call 45;(with_reducible refine HT3.out.mono ?_);rintro e w' ⟨rfl,rfl⟩) | (go_at_call 150;(with_reducible refine HC1.out.mono ?_);rintro e w' ⟨rfl,hb4⟩))
             go_ret
             exact ⟨ret_bool HQ.out,HB.out.1.trans (hb4.mono HSZ.out)⟩
           · have hl8:8<(lf:Int):=by omega
             have HQ:Hid (r=false):=Lib.hid (by rw [HX.out];simp [hlt])
             go_wp2_with (first | (go_at_call 45;(with_reducible refine HT1.out.mono ?_);rintro e w' ⟨rfl,rfl⟩) | (go_at_call 93;(with_reducible refine HWO.out.mono ?_);rintro e w' ⟨rfl,rfl⟩) | (go_at_call 45;(with_reducible refine HT2.out.mono ?_);rintro e w' ⟨rfl,rfl⟩) | (go_at_call 45;(with_reducible refine HT3.out.mono ?_);rintro e w' ⟨rfl,rfl⟩))
             go_ret
             exact ⟨ret_bool HQ.out.symm,HB.out.1⟩
         | false =>
           cases q2 with
           | false =>
             have HQ:Hid (r=false):=Lib.hid (by rw [HX.out];simp)
             go_wp2_with (first | (go_at_call 45;(with_reducible refine HT1.out.mono ?_);rintro e w' ⟨rfl,rfl⟩) | (go_at_call 93;(with_reducible refine HWO.out.mono ?_);rintro e w' ⟨rfl,rfl⟩) | (go_at_call 45;(with_reducible refine HT2.out.mono ?_);rintro e w' ⟨rfl,rfl⟩) | (go_at_call 45;(with_reducible refine HT3.out.mono ?_);rintro e w' ⟨rfl,rfl⟩) | (go_at_call 149;(with_reducible refine HFO.out.mono ?_);rintro e w' ⟨rfl,rfl⟩))
             go_ret
             exact ⟨ret_bool HQ.out.symm,HB.out.1⟩
           | true =>
             by_cases hlt:lf≤8
             · have hl8:(lf:Int)≤8:=by omega
               have HQ:Hid ((!t4)=r):=Lib.hid (by rw [HX.out];simp [hlt])
               go_wp2_with (first | (go_at_call 45;(with_reducible refine HT1.out.mono ?_);rintro e w' ⟨rfl,rfl⟩) | (go_at_call 93;(with_reducible refine HWO.out.mono ?_);rintro e w' ⟨rfl,rfl⟩) | (go_at_call 45;(with_reducible refine HT2.out.mono ?_);rintro e w' ⟨rfl,rfl⟩) | (go_at_call 45;(with_reducible refine HT3.out.mono ?_);rintro e w' ⟨rfl,rfl⟩) | (go_at_call 149;(with_reducible refine HFO.out.mono ?_);rintro e w' ⟨rfl,rfl⟩) | (go_at_call 150;(with_reducible refine HC1.out.mono ?_);rintro e w' ⟨rfl,hb4⟩))
               go_ret
               exact ⟨ret_bool HQ.out,HB.out.1.trans (hb4.mono HSZ.out)⟩
             · have hl8:8<(lf:Int):=by omega
               have HQ:Hid (r=false):=Lib.hid (by rw [HX.out];simp [hlt])
               go_wp2_with (first | (go_at_call 45;(with_reducible refine HT1.out.mono ?_);rintro e w' ⟨rfl,rfl⟩) | (go_at_call 93;(with_reducible refine HWO.out.mono ?_);rintro e w' ⟨rfl,rfl⟩) | (go_at_call 45;(with_reducible refine HT2.out.mono ?_);rintro e w' ⟨rfl,rfl⟩) | (go_at_call 45;(with_reducible refine HT3.out.mono ?_);rintro e w' ⟨rfl,rfl⟩) | (go_at_call 149;(with_reducible refine HFO.out.mono ?_);rintro e w' ⟨rfl,rfl⟩))
               go_ret
               exact ⟨ret_bool HQ.out.symm,HB.out.1⟩
theorem MediaV.forms {w:World} {B:Nat} {M:Array Value} {m:MediaS} {vC vE vR vS vY:Value} (h:MediaV w B M m vC vE vR vS vY) :
 ∃AC kC AE kE AR kR AS kS AY kY,vC=.slice AC m.codecs.length kC∧vE=.slice AE m.exts.length kE∧vR=.slice AR m.rids.length kR∧vS=.slice AS m.sources.length kS∧vY=.slice AY m.crypto.length kY:=by
 obtain ⟨AC,kC,e1,-⟩:=Rows.form h.codecs
 obtain ⟨AE,kE,e2,-⟩:=Rows.form h.exts
 obtain ⟨AR,kR,e3,-⟩:=Rows.form h.rids
 obtain ⟨AS,kS,e4,-⟩:=Rows.form h.sources
 obtain ⟨AY,kY,e5,-⟩:=Rows.form h.crypto
 exact ⟨AC,kC,AE,kE,AR,kR,AS,kS,AY,kY,e1,e2,e3,e4,e5⟩
set_option maxHeartbeats 6400000 in
set_option maxRecDepth 100000 in
theorem goodStreams_any (M:Array Value) (m:MediaS) (vC vE vR vS vY:Value) (w:World) (h:MediaV w w.heap.size M m vC vE vR vS vY) (hz:SizM m) :
 Calls Tryz.prog 46 #[.agg M] w fun e w'=>e=.returned (.bool (goodStreams m))∧Below w.heap.size w w':=by
 obtain ⟨AC,kC,AE,kE,AR,kR,AS,kS,AY,kY,rfl,rfl,rfl,rfl,rfl⟩:=h.forms
 obtain ⟨hform,hvC,hvE,hvR,hvS,hvY⟩:=h
 subst hform
 obtain ⟨nC,hnC⟩:∃n,m.codecs.length=n:=⟨_,rfl⟩
 obtain ⟨nE,hnE⟩:∃n,m.exts.length=n:=⟨_,rfl⟩
 obtain ⟨nR,hnR⟩:∃n,m.rids.length=n:=⟨_,rfl⟩
 obtain ⟨nS,hnS⟩:∃n,m.sources.length=n:=⟨_,rfl⟩
 obtain ⟨nY,hnY⟩:∃n,m.crypto.length=n:=⟨_,rfl⟩
 obtain ⟨hc1,hc2,hc3,hc4,hc5⟩:=hz.counts
 rw [hnC] at hvC hc1
 rw [hnE] at hvE hc2
 rw [hnR] at hvR hc3
 rw [hnS] at hvS hc4
 rw [hnY] at hvY hc5
 rw [hnC,hnE,hnR,hnS,hnY]
 have hb0:Below w.heap.size w (w.alloc (.cells #[.int .i64 m.kind,.int .i64 m.port,.string m.mid,.int .i64 m.dir,.slice AC nC kC,.slice AE nE kE,.slice AR nR kR,.bool m.sending,.slice AS nS kS,.slice AY nY kY,.int .i64 m.sctp] 28)):=(Below.refl _ w).alloc (Nat.le_refl _) _
 have hw:=Whole.new w 28 #[.int .i64 m.kind,.int .i64 m.port,.string m.mid,.int .i64 m.dir,.slice AC nC kC,.slice AE nE kE,.slice AR nR kR,.bool m.sending,.slice AS nS kS,.slice AY nY kY,.int .i64 m.sctp]
 have hx:goodStreams m=(decide (1≤nC) && ((decide (nC≤16) && m.codecs.all goodC && unlike CodecS.type m.codecs) && ((decide (nE≤14) && m.exts.all goodE && unlike ExtS.id m.exts) && ((decide (nR≤3) && m.rids.all goodR && unlike tx m.rids) && ((decide (1≤nR) || !m.sending) && ((decide (nS≤16) && m.sources.all (fun _=>true) && unlike id m.sources) && ((decide (nY≤1) && m.crypto.all goodY) && decide (m.sctp=0)))))))):=by
  unfold goodStreams
  rw [hnC,hnE,hnR,hnS,hnY,show (m.sources.all fun _=>true)=true from List.all_eq_true.2 (fun _ _=>rfl)]
  simp [Bool.and_assoc]
 have HLC:Hid (∀W,Below w.heap.size w W→Calls Tryz.prog 94 #[.slice AC nC kC,.int .i64 16,.func (.func 95) #[] #[],.func (.func 96) #[] #[]] W fun e w'=>e=.returned (.bool (decide (nC≤16) && m.codecs.all goodC && unlike CodecS.type m.codecs))∧Below W.heap.size W w'):=Lib.hid fun W hW =>
  goodListC_any AC nC kC m.codecs goodC W ((hvC.below hW).more hW.size) hnC (by omega) fun W' x vf _ hx hv=>by
   obtain ⟨Af,kf,rfl,-⟩:=Rows.form hv
   exact goodCodec_any x Af _ kf W' (hv.more (Nat.le_trans (by omega) (by assumption:Below W.heap.size W W').size)) (hz.names x hx) (hz.feeds x hx)
 have HLE:Hid (∀W,Below w.heap.size w W→Calls Tryz.prog 97 #[.slice AE nE kE,.int .i64 14,.func (.func 98) #[] #[],.func (.func 99) #[] #[]] W fun e w'=>e=.returned (.bool (decide (nE≤14) && m.exts.all goodE && unlike ExtS.id m.exts))∧Below W.heap.size W w'):=Lib.hid fun W hW =>
  goodListE_any AE nE kE m.exts goodE W ((hvE.below hW).more hW.size) hnE (by omega) fun W' x _ hx=>goodExt_any x W' (by have:=hz.uris x hx;unfold maxLen;omega)
 have HLR:Hid (∀W,Below w.heap.size w W→Calls Tryz.prog 100 #[.slice AR nR kR,.int .i64 3,.func (.func 101) #[] #[],.func (.func 102) #[] #[]] W fun e w'=>e=.returned (.bool (decide (nR≤3) && m.rids.all goodR && unlike tx m.rids))∧Below W.heap.size W w'):=Lib.hid fun W hW =>
  goodListS_any AR nR kR m.rids goodR W ((hvR.below hW).more hW.size) hnR (by omega) fun W' x _ hx=>(goodRid_any x W' (by have:=hz.rids x hx;unfold maxLen;omega)).mono fun e w' ⟨h1,h2⟩=>⟨h1,h2 ▸ Below.refl _ _⟩
 have HLS:Hid (∀W,Below w.heap.size w W→Calls Tryz.prog 103 #[.slice AS nS kS,.int .i64 16,.func (.func 104) #[] #[],.func (.func 105) #[] #[]] W fun e w'=>e=.returned (.bool (decide (nS≤16) && m.sources.all (fun _=>true) && unlike id m.sources))∧Below W.heap.size W w'):=Lib.hid fun W hW =>
  goodListU_any AS nS kS m.sources (fun _=>true) W ((hvS.below hW).more hW.size) hnS (by omega) fun W' x _ hx=>(anySource_any _ W').mono fun e w' ⟨h1,h2⟩=>⟨h1,h2 ▸ Below.refl _ _⟩
 have HLY:Hid (∀W,Below w.heap.size w W→Calls Tryz.prog 106 #[.slice AY nY kY,.int .i64 1,.func (.func 107) #[] #[],.func (.func 108) #[] #[]] W fun e w'=>e=.returned (.bool (decide (nY≤1) && m.crypto.all goodY))∧Below W.heap.size W w'):=Lib.hid fun W hW =>
  goodListY_any AY nY kY m.crypto W ((hvY.below hW).more hW.size) hnY (by omega)
 have HX:=Lib.hid hx
 generalize goodStreams m=r at *
 generalize (decide (nC≤16) && m.codecs.all goodC && unlike CodecS.type m.codecs)=tC at *
 generalize (decide (nE≤14) && m.exts.all goodE && unlike ExtS.id m.exts)=tE at *
 generalize (decide (nR≤3) && m.rids.all goodR && unlike tx m.rids)=tR at *
 generalize (decide (nS≤16) && m.sources.all (fun _=>true) && unlike id m.sources)=tS at *
 generalize (decide (nY≤1) && m.crypto.all goodY)=tY at *
 obtain ⟨sd,hsd⟩:∃b,m.sending=b:=⟨_,rfl⟩
 obtain ⟨sc,hsc⟩:∃b,m.sctp=b:=⟨_,rfl⟩
 rw [hsd] at HX
 rw [hsc] at HX
 simp only [hsd,hsc] at hb0 hw ⊢
 clear hx hvC hvE hvR hvS hvY hz hnC hnE hnR hnS hnY hsd hsc
 obtain ⟨N,hN⟩:∃N,w.heap.size=N:=⟨_,rfl⟩
 have HBX:=Lib.hid hw
 have HB:=Lib.hid hb0
 rw [hN] at HBX HB HLC HLE HLR HLS HLY ⊢
 clear hb0 hw
 go_enter Tryz.func46,Tryz.ntmps46
 go_upto_region 1 with fail
 generalize w.alloc (.cells #[.int .i64 m.kind,.int .i64 m.port,.string m.mid,.int .i64 m.dir,.slice AC nC kC,.slice AE nE kE,.slice AR nR kR,.bool sd,.slice AS nS kS,.slice AY nY kY,.int .i64 sc] 28)=W0 at *
 have HN:Hid (N≤W0.heap.size):=Lib.hid (Nat.le_of_lt HBX.out.lt)
 clear hN
 have H0:Hid (Below W0.heap.size W0 W0):=Lib.hid (Below.refl _ _)
 have c4:W0.cell? ⟨N,4,none⟩=some (.slice AC nC kC):=HBX.out.cell 4
 by_cases hl1:1≤nC
 · have hl10:(0:Int)<(nC:Int):=by omega
   cases tC with
   | false =>
     have HQ:Hid (r=false):=Lib.hid (by rw [HX.out];simp)
     go_wp2_with (first | (go_at_call 94;(with_reducible refine (HLC.out _ (HB.out.trans (H0.out.mono HN.out))).mono ?_);rintro e w1 ⟨rfl,hb1⟩;have H1:Hid (Below W0.heap.size W0 w1):=Lib.hid (H0.out.trans (hb1.mono H0.out.size));clear hb1;have d5:w1.cell? ⟨N,5,none⟩=some (.slice AE nE kE):=(HBX.out.under H1.out).cell 5))
     go_ret
     exact ⟨ret_bool HQ.out.symm,HB.out.trans (H1.out.mono HN.out)⟩
   | true =>
     cases tE with
     | false =>
       have HQ:Hid (r=false):=Lib.hid (by rw [HX.out];simp)
       go_wp2_with (first | (go_at_call 94;(with_reducible refine (HLC.out _ (HB.out.trans (H0.out.mono HN.out))).mono ?_);rintro e w1 ⟨rfl,hb1⟩;have H1:Hid (Below W0.heap.size W0 w1):=Lib.hid (H0.out.trans (hb1.mono H0.out.size));clear hb1;have d5:w1.cell? ⟨N,5,none⟩=some (.slice AE nE kE):=(HBX.out.under H1.out).cell 5) | (go_at_call 97;(with_reducible refine (HLE.out _ (HB.out.trans (H1.out.mono HN.out))).mono ?_);rintro e w2 ⟨rfl,hb2⟩;have H2:Hid (Below W0.heap.size W0 w2):=Lib.hid (H1.out.trans (hb2.mono H1.out.size));clear hb2;have d6:w2.cell? ⟨N,6,none⟩=some (.slice AR nR kR):=(HBX.out.under H2.out).cell 6))
       go_ret
       exact ⟨ret_bool HQ.out.symm,HB.out.trans (H2.out.mono HN.out)⟩
     | true =>
       cases tR with
       | false =>
         have HQ:Hid (r=false):=Lib.hid (by rw [HX.out];simp)
         go_wp2_with (first | (go_at_call 94;(with_reducible refine (HLC.out _ (HB.out.trans (H0.out.mono HN.out))).mono ?_);rintro e w1 ⟨rfl,hb1⟩;have H1:Hid (Below W0.heap.size W0 w1):=Lib.hid (H0.out.trans (hb1.mono H0.out.size));clear hb1;have d5:w1.cell? ⟨N,5,none⟩=some (.slice AE nE kE):=(HBX.out.under H1.out).cell 5) | (go_at_call 97;(with_reducible refine (HLE.out _ (HB.out.trans (H1.out.mono HN.out))).mono ?_);rintro e w2 ⟨rfl,hb2⟩;have H2:Hid (Below W0.heap.size W0 w2):=Lib.hid (H1.out.trans (hb2.mono H1.out.size));clear hb2;have d6:w2.cell? ⟨N,6,none⟩=some (.slice AR nR kR):=(HBX.out.under H2.out).cell 6) | (go_at_call 100;(with_reducible refine (HLR.out _ (HB.out.trans (H2.out.mono HN.out))).mono ?_);rintro e w3 ⟨rfl,hb3⟩;have H3:Hid (Below W0.heap.size W0 w3):=Lib.hid (H2.out.trans (hb3.mono H2.out.size));clear hb3;have d6:w3.cell? ⟨N,6,none⟩=some (.slice AR nR kR):=(HBX.out.under H3.out).cell 6;have d7:w3.cell? ⟨N,7,none⟩=some (.bool sd):=(HBX.out.under H3.out).cell 7;have d8:w3.cell? ⟨N,8,none⟩=some (.slice AS nS kS):=(HBX.out.under H3.out).cell 8))
         go_ret
         exact ⟨ret_bool HQ.out.symm,HB.out.trans (H3.out.mono HN.out)⟩
       | true =>
         by_cases hlr:1≤nR
         · have hlr0:(0:Int)<(nR:Int):=by omega
           have hsx:(1≤nR∨sd=false):=.inl hlr
           cases tS with
           | false =>
             have HQ:Hid (r=false):=Lib.hid (by rw [HX.out];simp)
             go_wp2_with (first | (go_at_call 94;(with_reducible refine (HLC.out _ (HB.out.trans (H0.out.mono HN.out))).mono ?_);rintro e w1 ⟨rfl,hb1⟩;have H1:Hid (Below W0.heap.size W0 w1):=Lib.hid (H0.out.trans (hb1.mono H0.out.size));clear hb1;have d5:w1.cell? ⟨N,5,none⟩=some (.slice AE nE kE):=(HBX.out.under H1.out).cell 5) | (go_at_call 97;(with_reducible refine (HLE.out _ (HB.out.trans (H1.out.mono HN.out))).mono ?_);rintro e w2 ⟨rfl,hb2⟩;have H2:Hid (Below W0.heap.size W0 w2):=Lib.hid (H1.out.trans (hb2.mono H1.out.size));clear hb2;have d6:w2.cell? ⟨N,6,none⟩=some (.slice AR nR kR):=(HBX.out.under H2.out).cell 6) | (go_at_call 100;(with_reducible refine (HLR.out _ (HB.out.trans (H2.out.mono HN.out))).mono ?_);rintro e w3 ⟨rfl,hb3⟩;have H3:Hid (Below W0.heap.size W0 w3):=Lib.hid (H2.out.trans (hb3.mono H2.out.size));clear hb3;have d6:w3.cell? ⟨N,6,none⟩=some (.slice AR nR kR):=(HBX.out.under H3.out).cell 6;have d7:w3.cell? ⟨N,7,none⟩=some (.bool sd):=(HBX.out.under H3.out).cell 7;have d8:w3.cell? ⟨N,8,none⟩=some (.slice AS nS kS):=(HBX.out.under H3.out).cell 8) | (go_at_call 103;(with_reducible refine (HLS.out _ (HB.out.trans (H3.out.mono HN.out))).mono ?_);rintro e w4 ⟨rfl,hb4⟩;have H4:Hid (Below W0.heap.size W0 w4):=Lib.hid (H3.out.trans (hb4.mono H3.out.size));clear hb4;have d9:w4.cell? ⟨N,9,none⟩=some (.slice AY nY kY):=(HBX.out.under H4.out).cell 9))
             go_ret
             exact ⟨ret_bool HQ.out.symm,HB.out.trans (H4.out.mono HN.out)⟩
           | true =>
             cases tY with
             | false =>
               have HQ:Hid (r=false):=Lib.hid (by rw [HX.out];simp)
               go_wp2_with (first | (go_at_call 94;(with_reducible refine (HLC.out _ (HB.out.trans (H0.out.mono HN.out))).mono ?_);rintro e w1 ⟨rfl,hb1⟩;have H1:Hid (Below W0.heap.size W0 w1):=Lib.hid (H0.out.trans (hb1.mono H0.out.size));clear hb1;have d5:w1.cell? ⟨N,5,none⟩=some (.slice AE nE kE):=(HBX.out.under H1.out).cell 5) | (go_at_call 97;(with_reducible refine (HLE.out _ (HB.out.trans (H1.out.mono HN.out))).mono ?_);rintro e w2 ⟨rfl,hb2⟩;have H2:Hid (Below W0.heap.size W0 w2):=Lib.hid (H1.out.trans (hb2.mono H1.out.size));clear hb2;have d6:w2.cell? ⟨N,6,none⟩=some (.slice AR nR kR):=(HBX.out.under H2.out).cell 6) | (go_at_call 100;(with_reducible refine (HLR.out _ (HB.out.trans (H2.out.mono HN.out))).mono ?_);rintro e w3 ⟨rfl,hb3⟩;have H3:Hid (Below W0.heap.size W0 w3):=Lib.hid (H2.out.trans (hb3.mono H2.out.size));clear hb3;have d6:w3.cell? ⟨N,6,none⟩=some (.slice AR nR kR):=(HBX.out.under H3.out).cell 6;have d7:w3.cell? ⟨N,7,none⟩=some (.bool sd):=(HBX.out.under H3.out).cell 7;have d8:w3.cell? ⟨N,8,none⟩=some (.slice AS nS kS):=(HBX.out.under H3.out).cell 8) | (go_at_call 103;(with_reducible refine (HLS.out _ (HB.out.trans (H3.out.mono HN.out))).mono ?_);rintro e w4 ⟨rfl,hb4⟩;have H4:Hid (Below W0.heap.size W0 w4):=Lib.hid (H3.out.trans (hb4.mono H3.out.size));clear hb4;have d9:w4.cell? ⟨N,9,none⟩=some (.slice AY nY kY):=(HBX.out.under H4.out).cell 9) | (go_at_call 106;(with_reducible refine (HLY.out _ (HB.out.trans (H4.out.mono HN.out))).mono ?_);rintro e w5 ⟨rfl,hb5⟩;have H5:Hid (Below W0.heap.size W0 w5):=Lib.hid (H4.out.trans (hb5.mono H4.out.size));clear hb5;have d10:w5.cell? ⟨N,10,none⟩=some (.int .i64 sc):=(HBX.out.under H5.out).cell 10))
               go_ret
               exact ⟨ret_bool HQ.out.symm,HB.out.trans (H5.out.mono HN.out)⟩
             | true =>
               have HQ:Hid ((sc == 0)=r):=Lib.hid (by rw [HX.out];rw [Bool.eq_iff_iff];simp [hl1,hsx])
               go_wp2_with (first | (go_at_call 94;(with_reducible refine (HLC.out _ (HB.out.trans (H0.out.mono HN.out))).mono ?_);rintro e w1 ⟨rfl,hb1⟩;have H1:Hid (Below W0.heap.size W0 w1):=Lib.hid (H0.out.trans (hb1.mono H0.out.size));clear hb1;have d5:w1.cell? ⟨N,5,none⟩=some (.slice AE nE kE):=(HBX.out.under H1.out).cell 5) | (go_at_call 97;(with_reducible refine (HLE.out _ (HB.out.trans (H1.out.mono HN.out))).mono ?_);rintro e w2 ⟨rfl,hb2⟩;have H2:Hid (Below W0.heap.size W0 w2):=Lib.hid (H1.out.trans (hb2.mono H1.out.size));clear hb2;have d6:w2.cell? ⟨N,6,none⟩=some (.slice AR nR kR):=(HBX.out.under H2.out).cell 6) | (go_at_call 100;(with_reducible refine (HLR.out _ (HB.out.trans (H2.out.mono HN.out))).mono ?_);rintro e w3 ⟨rfl,hb3⟩;have H3:Hid (Below W0.heap.size W0 w3):=Lib.hid (H2.out.trans (hb3.mono H2.out.size));clear hb3;have d6:w3.cell? ⟨N,6,none⟩=some (.slice AR nR kR):=(HBX.out.under H3.out).cell 6;have d7:w3.cell? ⟨N,7,none⟩=some (.bool sd):=(HBX.out.under H3.out).cell 7;have d8:w3.cell? ⟨N,8,none⟩=some (.slice AS nS kS):=(HBX.out.under H3.out).cell 8) | (go_at_call 103;(with_reducible refine (HLS.out _ (HB.out.trans (H3.out.mono HN.out))).mono ?_);rintro e w4 ⟨rfl,hb4⟩;have H4:Hid (Below W0.heap.size W0 w4):=Lib.hid (H3.out.trans (hb4.mono H3.out.size));clear hb4;have d9:w4.cell? ⟨N,9,none⟩=some (.slice AY nY kY):=(HBX.out.under H4.out).cell 9) | (go_at_call 106;(with_reducible refine (HLY.out _ (HB.out.trans (H4.out.mono HN.out))).mono ?_);rintro e w5 ⟨rfl,hb5⟩;have H5:Hid (Below W0.heap.size W0 w5):=Lib.hid (H4.out.trans (hb5.mono H4.out.size));clear hb5;have d10:w5.cell? ⟨N,10,none⟩=some (.int .i64 sc):=(HBX.out.under H5.out).cell 10))
               go_ret
               exact ⟨ret_bool HQ.out,HB.out.trans (H5.out.mono HN.out)⟩
         · have hlr0:(nR:Int)≤0:=by omega
           cases sd with
           | true =>
             have HQ:Hid (r=false):=Lib.hid (by rw [HX.out];simp [hlr])
             go_wp2_with (first | (go_at_call 94;(with_reducible refine (HLC.out _ (HB.out.trans (H0.out.mono HN.out))).mono ?_);rintro e w1 ⟨rfl,hb1⟩;have H1:Hid (Below W0.heap.size W0 w1):=Lib.hid (H0.out.trans (hb1.mono H0.out.size));clear hb1;have d5:w1.cell? ⟨N,5,none⟩=some (.slice AE nE kE):=(HBX.out.under H1.out).cell 5) | (go_at_call 97;(with_reducible refine (HLE.out _ (HB.out.trans (H1.out.mono HN.out))).mono ?_);rintro e w2 ⟨rfl,hb2⟩;have H2:Hid (Below W0.heap.size W0 w2):=Lib.hid (H1.out.trans (hb2.mono H1.out.size));clear hb2;have d6:w2.cell? ⟨N,6,none⟩=some (.slice AR nR kR):=(HBX.out.under H2.out).cell 6) | (go_at_call 100;(with_reducible refine (HLR.out _ (HB.out.trans (H2.out.mono HN.out))).mono ?_);rintro e w3 ⟨rfl,hb3⟩;have H3:Hid (Below W0.heap.size W0 w3):=Lib.hid (H2.out.trans (hb3.mono H2.out.size));clear hb3;have d6:w3.cell? ⟨N,6,none⟩=some (.slice AR nR kR):=(HBX.out.under H3.out).cell 6;have d7:w3.cell? ⟨N,7,none⟩=some (.bool true):=(HBX.out.under H3.out).cell 7;have d8:w3.cell? ⟨N,8,none⟩=some (.slice AS nS kS):=(HBX.out.under H3.out).cell 8))
             go_ret
             exact ⟨ret_bool HQ.out.symm,HB.out.trans (H3.out.mono HN.out)⟩
           | false =>
             have hsx:(1≤nR∨false=false):=.inr rfl
             cases tS with
             | false =>
               have HQ:Hid (r=false):=Lib.hid (by rw [HX.out];simp)
               go_wp2_with (first | (go_at_call 94;(with_reducible refine (HLC.out _ (HB.out.trans (H0.out.mono HN.out))).mono ?_);rintro e w1 ⟨rfl,hb1⟩;have H1:Hid (Below W0.heap.size W0 w1):=Lib.hid (H0.out.trans (hb1.mono H0.out.size));clear hb1;have d5:w1.cell? ⟨N,5,none⟩=some (.slice AE nE kE):=(HBX.out.under H1.out).cell 5) | (go_at_call 97;(with_reducible refine (HLE.out _ (HB.out.trans (H1.out.mono HN.out))).mono ?_);rintro e w2 ⟨rfl,hb2⟩;have H2:Hid (Below W0.heap.size W0 w2):=Lib.hid (H1.out.trans (hb2.mono H1.out.size));clear hb2;have d6:w2.cell? ⟨N,6,none⟩=some (.slice AR nR kR):=(HBX.out.under H2.out).cell 6) | (go_at_call 100;(with_reducible refine (HLR.out _ (HB.out.trans (H2.out.mono HN.out))).mono ?_);rintro e w3 ⟨rfl,hb3⟩;have H3:Hid (Below W0.heap.size W0 w3):=Lib.hid (H2.out.trans (hb3.mono H2.out.size));clear hb3;have d6:w3.cell? ⟨N,6,none⟩=some (.slice AR nR kR):=(HBX.out.under H3.out).cell 6;have d7:w3.cell? ⟨N,7,none⟩=some (.bool false):=(HBX.out.under H3.out).cell 7;have d8:w3.cell? ⟨N,8,none⟩=some (.slice AS nS kS):=(HBX.out.under H3.out).cell 8) | (go_at_call 103;(with_reducible refine (HLS.out _ (HB.out.trans (H3.out.mono HN.out))).mono ?_);rintro e w4 ⟨rfl,hb4⟩;have H4:Hid (Below W0.heap.size W0 w4):=Lib.hid (H3.out.trans (hb4.mono H3.out.size));clear hb4;have d9:w4.cell? ⟨N,9,none⟩=some (.slice AY nY kY):=(HBX.out.under H4.out).cell 9))
               go_ret
               exact ⟨ret_bool HQ.out.symm,HB.out.trans (H4.out.mono HN.out)⟩
             | true =>
               cases tY with
               | false =>
                 have HQ:Hid (r=false):=Lib.hid (by rw [HX.out];simp)
                 go_wp2_with (first | (go_at_call 94;(with_reducible refine (HLC.out _ (HB.out.trans (H0.out.mono HN.out))).mono ?_);rintro e w1 ⟨rfl,hb1⟩;have H1:Hid (Below W0.heap.size W0 w1):=Lib.hid (H0.out.trans (hb1.mono H0.out.size));clear hb1;have d5:w1.cell? ⟨N,5,none⟩=some (.slice AE nE kE):=(HBX.out.under H1.out).cell 5) | (go_at_call 97;(with_reducible refine (HLE.out _ (HB.out.trans (H1.out.mono HN.out))).mono ?_);rintro e w2 ⟨rfl,hb2⟩;have H2:Hid (Below W0.heap.size W0 w2):=Lib.hid (H1.out.trans (hb2.mono H1.out.size));clear hb2;have d6:w2.cell? ⟨N,6,none⟩=some (.slice AR nR kR):=(HBX.out.under H2.out).cell 6) | (go_at_call 100;(with_reducible refine (HLR.out _ (HB.out.trans (H2.out.mono HN.out))).mono ?_);rintro e w3 ⟨rfl,hb3⟩;have H3:Hid (Below W0.heap.size W0 w3):=Lib.hid (H2.out.trans (hb3.mono H2.out.size));clear hb3;have d6:w3.cell? ⟨N,6,none⟩=some (.slice AR nR kR):=(HBX.out.under H3.out).cell 6;have d7:w3.cell? ⟨N,7,none⟩=some (.bool false):=(HBX.out.under H3.out).cell 7;have d8:w3.cell? ⟨N,8,none⟩=some (.slice AS nS kS):=(HBX.out.under H3.out).cell 8) | (go_at_call 103;(with_reducible refine (HLS.out _ (HB.out.trans (H3.out.mono HN.out))).mono ?_);rintro e w4 ⟨rfl,hb4⟩;have H4:Hid (Below W0.heap.size W0 w4):=Lib.hid (H3.out.trans (hb4.mono H3.out.size));clear hb4;have d9:w4.cell? ⟨N,9,none⟩=some (.slice AY nY kY):=(HBX.out.under H4.out).cell 9) | (go_at_call 106;(with_reducible refine (HLY.out _ (HB.out.trans (H4.out.mono HN.out))).mono ?_);rintro e w5 ⟨rfl,hb5⟩;have H5:Hid (Below W0.heap.size W0 w5):=Lib.hid (H4.out.trans (hb5.mono H4.out.size));clear hb5;have d10:w5.cell? ⟨N,10,none⟩=some (.int .i64 sc):=(HBX.out.under H5.out).cell 10))
                 go_ret
                 exact ⟨ret_bool HQ.out.symm,HB.out.trans (H5.out.mono HN.out)⟩
               | true =>
                 have HQ:Hid ((sc == 0)=r):=Lib.hid (by rw [HX.out];rw [Bool.eq_iff_iff];simp [hl1,hsx])
                 go_wp2_with (first | (go_at_call 94;(with_reducible refine (HLC.out _ (HB.out.trans (H0.out.mono HN.out))).mono ?_);rintro e w1 ⟨rfl,hb1⟩;have H1:Hid (Below W0.heap.size W0 w1):=Lib.hid (H0.out.trans (hb1.mono H0.out.size));clear hb1;have d5:w1.cell? ⟨N,5,none⟩=some (.slice AE nE kE):=(HBX.out.under H1.out).cell 5) | (go_at_call 97;(with_reducible refine (HLE.out _ (HB.out.trans (H1.out.mono HN.out))).mono ?_);rintro e w2 ⟨rfl,hb2⟩;have H2:Hid (Below W0.heap.size W0 w2):=Lib.hid (H1.out.trans (hb2.mono H1.out.size));clear hb2;have d6:w2.cell? ⟨N,6,none⟩=some (.slice AR nR kR):=(HBX.out.under H2.out).cell 6) | (go_at_call 100;(with_reducible refine (HLR.out _ (HB.out.trans (H2.out.mono HN.out))).mono ?_);rintro e w3 ⟨rfl,hb3⟩;have H3:Hid (Below W0.heap.size W0 w3):=Lib.hid (H2.out.trans (hb3.mono H2.out.size));clear hb3;have d6:w3.cell? ⟨N,6,none⟩=some (.slice AR nR kR):=(HBX.out.under H3.out).cell 6;have d7:w3.cell? ⟨N,7,none⟩=some (.bool false):=(HBX.out.under H3.out).cell 7;have d8:w3.cell? ⟨N,8,none⟩=some (.slice AS nS kS):=(HBX.out.under H3.out).cell 8) | (go_at_call 103;(with_reducible refine (HLS.out _ (HB.out.trans (H3.out.mono HN.out))).mono ?_);rintro e w4 ⟨rfl,hb4⟩;have H4:Hid (Below W0.heap.size W0 w4):=Lib.hid (H3.out.trans (hb4.mono H3.out.size));clear hb4;have d9:w4.cell? ⟨N,9,none⟩=some (.slice AY nY kY):=(HBX.out.under H4.out).cell 9) | (go_at_call 106;(with_reducible refine (HLY.out _ (HB.out.trans (H4.out.mono HN.out))).mono ?_);rintro e w5 ⟨rfl,hb5⟩;have H5:Hid (Below W0.heap.size W0 w5):=Lib.hid (H4.out.trans (hb5.mono H4.out.size));clear hb5;have d10:w5.cell? ⟨N,10,none⟩=some (.int .i64 sc):=(HBX.out.under H5.out).cell 10))
                 go_ret
                 exact ⟨ret_bool HQ.out,HB.out.trans (H5.out.mono HN.out)⟩
 · have hl10:(nC:Int)≤0:=by omega
   have HQ:Hid (r=false):=Lib.hid (by rw [HX.out];simp [hl1])
   go_wp2
   go_ret
   exact ⟨ret_bool HQ.out.symm,HB.out⟩
set_option maxHeartbeats 3200000 in
set_option maxRecDepth 100000 in
theorem goodChannel_any (M:Array Value) (m:MediaS) (vC vE vR vS vY:Value) (w:World) (h:MediaV w w.heap.size M m vC vE vR vS vY) (hz:SizM m) :
 Calls Tryz.prog 47 #[.agg M] w fun e w'=>e=.returned (.bool (goodChannel m))∧Below w.heap.size w w':=by
 obtain ⟨AC,kC,AE,kE,AR,kR,AS,kS,AY,kY,rfl,rfl,rfl,rfl,rfl⟩:=h.forms
 obtain ⟨hform,hvC,hvE,hvR,hvS,hvY⟩:=h
 subst hform
 obtain ⟨nC,hnC⟩:∃n,m.codecs.length=n:=⟨_,rfl⟩
 obtain ⟨nE,hnE⟩:∃n,m.exts.length=n:=⟨_,rfl⟩
 obtain ⟨nR,hnR⟩:∃n,m.rids.length=n:=⟨_,rfl⟩
 obtain ⟨nS,hnS⟩:∃n,m.sources.length=n:=⟨_,rfl⟩
 obtain ⟨nY,hnY⟩:∃n,m.crypto.length=n:=⟨_,rfl⟩
 obtain ⟨hc1,hc2,hc3,hc4,hc5⟩:=hz.counts
 rw [hnC] at hvC hc1
 rw [hnE] at hvE hc2
 rw [hnR] at hvR hc3
 rw [hnS] at hvS hc4
 rw [hnY] at hvY hc5
 rw [hnC,hnE,hnR,hnS,hnY]
 have hb0:Below w.heap.size w (w.alloc (.cells #[.int .i64 m.kind,.int .i64 m.port,.string m.mid,.int .i64 m.dir,.slice AC nC kC,.slice AE nE kE,.slice AR nR kR,.bool m.sending,.slice AS nS kS,.slice AY nY kY,.int .i64 m.sctp] 28)):=(Below.refl _ w).alloc (Nat.le_refl _) _
 have hw:=Whole.new w 28 #[.int .i64 m.kind,.int .i64 m.port,.string m.mid,.int .i64 m.dir,.slice AC nC kC,.slice AE nE kE,.slice AR nR kR,.bool m.sending,.slice AS nS kS,.slice AY nY kY,.int .i64 m.sctp]
 have hx:goodChannel m=(decide (nC+nE+nR+nS+nY=0) && (!m.sending && (decide (1≤m.sctp) && decide (m.sctp≤65535)))):=by
  unfold goodChannel
  rw [hnC,hnE,hnR,hnS,hnY]
  simp [Bool.and_assoc]
 have HX:=Lib.hid hx
 have HB:=Lib.hid hb0
 have HW:=Lib.hid (within_any m.sctp 1 65535 (w.alloc (.cells #[.int .i64 m.kind,.int .i64 m.port,.string m.mid,.int .i64 m.dir,.slice AC nC kC,.slice AE nE kE,.slice AR nR kR,.bool m.sending,.slice AS nS kS,.slice AY nY kY,.int .i64 m.sctp] 28)))
 have c4:=hw.cell 4
 have c5:=hw.cell 5
 have c6:=hw.cell 6
 have c7:=hw.cell 7
 have c8:=hw.cell 8
 have c9:=hw.cell 9
 have c10:=hw.cell 10
 simp only [List.getElem?_toArray,List.getElem?_cons_zero,List.getElem?_cons_succ] at c4 c5 c6 c7 c8 c9 c10
 generalize goodChannel m=r at *
 generalize (decide (1≤m.sctp) && decide (m.sctp≤65535))=t at *
 generalize m.sctp=sc at *
 generalize m.sending=sd at *
 clear hx hvC hvE hvR hvS hvY hz hnC hnE hnR hnS hnY hb0 hw
 have w1:IntKind.i64.wrap ((nC:Int)+(nE:Int))=(nC:Int)+(nE:Int):=IntWalk.i64_in _ (by omega)
 have w2:IntKind.i64.wrap ((nC:Int)+(nE:Int)+(nR:Int))=(nC:Int)+(nE:Int)+(nR:Int):=IntWalk.i64_in _ (by omega)
 have w3:IntKind.i64.wrap ((nC:Int)+(nE:Int)+(nR:Int)+(nS:Int))=(nC:Int)+(nE:Int)+(nR:Int)+(nS:Int):=IntWalk.i64_in _ (by omega)
 have w4:IntKind.i64.wrap ((nC:Int)+(nE:Int)+(nR:Int)+(nS:Int)+(nY:Int))=(nC:Int)+(nE:Int)+(nR:Int)+(nS:Int)+(nY:Int):=IntWalk.i64_in _ (by omega)
 obtain ⟨N,hN⟩:∃N,w.heap.size=N:=⟨_,rfl⟩
 rw [hN] at HB c4 c5 c6 c7 c8 c9 c10 ⊢
 by_cases hs:nC+nE+nR+nS+nY=0
 · have hz:((nC:Int)+(nE:Int)+(nR:Int)+(nS:Int)+(nY:Int) == 0)=true:=by rw [beq_iff_eq];omega
   cases sd with
   | false =>
     have HQ:Hid (t=r):=Lib.hid (by rw [HX.out,decide_eq_true hs];simp)
     clear hs
     go_enter Tryz.func47,Tryz.ntmps47
     go_wp2_with (go_at_call 45;(with_reducible refine HW.out.mono ?_);rintro e w' ⟨rfl,rfl⟩)
     go_ret
     exact ⟨ret_bool HQ.out,HB.out⟩
   | true =>
     have HQ:Hid (r=false):=Lib.hid (by rw [HX.out];simp)
     clear hs
     go_enter Tryz.func47,Tryz.ntmps47
     go_wp2
     go_ret
     exact ⟨ret_bool HQ.out.symm,HB.out⟩
 · have hz:((nC:Int)+(nE:Int)+(nR:Int)+(nS:Int)+(nY:Int) == 0)=false:=by rw [beq_eq_false_iff_ne];omega
   have HQ:Hid (r=false):=Lib.hid (by rw [HX.out,decide_eq_false hs];rfl)
   clear hs
   go_enter Tryz.func47,Tryz.ntmps47
   go_wp2
   go_ret
   exact ⟨ret_bool HQ.out.symm,HB.out⟩
set_option maxHeartbeats 6400000 in
set_option maxRecDepth 100000 in
theorem good_any (M:Array Value) (m:MediaS) (vC vE vR vS vY:Value) (w:World) (h:MediaV w w.heap.size M m vC vE vR vS vY) (hz:SizM m) :
 Calls Tryz.prog 19 #[.agg M] w fun e w'=>e=.returned (.bool (goodM m))∧Below w.heap.size w w':=by
 have hb0:Below w.heap.size w (w.alloc (.cells M 28)):=(Below.refl _ w).alloc (Nat.le_refl _) _
 have hw:=Whole.new w 28 M
 have h0:=h.under hb0
 have hform:=h.form
 have c0:(w.alloc (.cells M 28)).cell? ⟨w.heap.size,0,none⟩=some (.int .i64 m.kind):=(hw.cell 0).trans (by rw [hform];rfl)
 have c1:(w.alloc (.cells M 28)).cell? ⟨w.heap.size,1,none⟩=some (.int .i64 m.port):=(hw.cell 1).trans (by rw [hform];rfl)
 have c2:(w.alloc (.cells M 28)).cell? ⟨w.heap.size,2,none⟩=some (.string m.mid):=(hw.cell 2).trans (by rw [hform];rfl)
 have c3:(w.alloc (.cells M 28)).cell? ⟨w.heap.size,3,none⟩=some (.int .i64 m.dir):=(hw.cell 3).trans (by rw [hform];rfl)
 have HS:=Lib.hid (goodStreams_any M m vC vE vR vS vY _ h0 hz)
 have HCH:=Lib.hid (goodChannel_any M m vC vE vR vS vY _ h0 hz)
 have HWO:Hid (Calls Tryz.prog 44 #[.string m.mid,.int .i64 16] (w.alloc (.cells M 28)) fun e w'=>e=.returned (.bool (wordP 1 16 (tx m.mid)))∧(w.alloc (.cells M 28))=w'):=Lib.hid (wordOf_any m.mid 16 _ (by have:=hz.mid;unfold maxLen;omega) (by decide))
 have HWI:=Lib.hid (within_any m.dir 0 3 (w.alloc (.cells M 28)))
 have hx:goodM m=(((decide (m.port=0) || decide (m.port=9)) && (wordP 1 16 (tx m.mid) && (decide (0≤m.dir) && decide (m.dir≤3)))) && ((decide (m.kind=1) || decide (m.kind=2)) && goodStreams m || decide (m.kind=3) && goodChannel m)):=by
  unfold goodM goodHead
  simp only [Bool.and_assoc]
 have HX:=Lib.hid hx
 have HB:=Lib.hid (And.intro hb0 (And.intro hw h.size))
 generalize goodM m=r at *
 generalize goodStreams m=gs at *
 generalize goodChannel m=gc at *
 generalize (decide (0≤m.dir) && decide (m.dir≤3))=td at *
 generalize wordP 1 16 (tx m.mid)=tw at *
 generalize m.port=p at *
 generalize m.kind=k at *
 generalize m.dir=d at *
 generalize m.mid=md at *
 clear h h0 hz hx hb0 hw hform
 obtain ⟨N,hN⟩:∃N,w.heap.size=N:=⟨_,rfl⟩
 have HSZ:Hid (N≤(w.alloc (.cells M 28)).heap.size):=Lib.hid (by rw [←hN];exact HB.out.1.size)
 rw [hN] at c0 c1 c2 c3 HB ⊢
 have hgen:∃W0,w.alloc (.cells M 28)=W0:=⟨_,rfl⟩
 go_enter Tryz.func19,Tryz.ntmps19
 go_upto_region 1 with fail
 generalize w.alloc (.cells M 28)=W0 at *
 clear hN hgen
 by_cases hp0:p=0
 · subst hp0
   cases tw with
   | false =>
     have HQ:Hid (r=false):=Lib.hid (by rw [HX.out];simp)
     go_wp2_with (first | (go_at_call 44;(with_reducible refine HWO.out.mono ?_);rintro e w' ⟨rfl,rfl⟩))
     go_ret
     exact ⟨ret_bool HQ.out.symm,HB.out.1⟩
   | true =>
     cases td with
     | false =>
       have HQ:Hid (r=false):=Lib.hid (by rw [HX.out];simp)
       go_wp2_with (first | (go_at_call 44;(with_reducible refine HWO.out.mono ?_);rintro e w' ⟨rfl,rfl⟩) | (go_at_call 45;(with_reducible refine HWI.out.mono ?_);rintro e w' ⟨rfl,rfl⟩))
       go_ret
       exact ⟨ret_bool HQ.out.symm,HB.out.1⟩
     | true =>
       by_cases hk1:k=1
       · subst hk1
         have HQ:Hid (gs=r):=Lib.hid (by rw [HX.out];simp)
         go_wp2_with (first | (go_at_call 44;(with_reducible refine HWO.out.mono ?_);rintro e w' ⟨rfl,rfl⟩) | (go_at_call 45;(with_reducible refine HWI.out.mono ?_);rintro e w' ⟨rfl,rfl⟩) | ((with_reducible refine wpList_load_all ?_ 28 (.tmp 1) ?_ HB.out.2.1 ?_ Tryz.sizeMedia HB.out.2.2 Tryz.underlying28 ?_ ?_);(with_reducible rfl);(with_reducible rfl);rfl;rfl) | (go_at_call 46;(with_reducible refine HS.out.mono ?_);rintro e w2 ⟨rfl,hb2⟩))
         go_ret
         exact ⟨ret_bool HQ.out,HB.out.1.trans (hb2.mono HSZ.out)⟩
       · by_cases hk2:k=2
         · subst hk2
           have HQ:Hid (gs=r):=Lib.hid (by rw [HX.out];simp)
           go_wp2_with (first | (go_at_call 44;(with_reducible refine HWO.out.mono ?_);rintro e w' ⟨rfl,rfl⟩) | (go_at_call 45;(with_reducible refine HWI.out.mono ?_);rintro e w' ⟨rfl,rfl⟩) | ((with_reducible refine wpList_load_all ?_ 28 (.tmp 1) ?_ HB.out.2.1 ?_ Tryz.sizeMedia HB.out.2.2 Tryz.underlying28 ?_ ?_);(with_reducible rfl);(with_reducible rfl);rfl;rfl) | (go_at_call 46;(with_reducible refine HS.out.mono ?_);rintro e w2 ⟨rfl,hb2⟩))
           go_ret
           exact ⟨ret_bool HQ.out,HB.out.1.trans (hb2.mono HSZ.out)⟩
         · by_cases hk3:k=3
           · subst hk3
             have HQ:Hid (gc=r):=Lib.hid (by rw [HX.out];simp)
             go_wp2_with (first | (go_at_call 44;(with_reducible refine HWO.out.mono ?_);rintro e w' ⟨rfl,rfl⟩) | (go_at_call 45;(with_reducible refine HWI.out.mono ?_);rintro e w' ⟨rfl,rfl⟩) | ((with_reducible refine wpList_load_all ?_ 28 (.tmp 1) ?_ HB.out.2.1 ?_ Tryz.sizeMedia HB.out.2.2 Tryz.underlying28 ?_ ?_);(with_reducible rfl);(with_reducible rfl);rfl;rfl) | (go_at_call 47;(with_reducible refine HCH.out.mono ?_);rintro e w2 ⟨rfl,hb2⟩))
             go_ret
             exact ⟨ret_bool HQ.out,HB.out.1.trans (hb2.mono HSZ.out)⟩
           · have q1:(k == 1)=false:=by simpa using hk1
             have q2:(k == 2)=false:=by simpa using hk2
             have q3:(k == 3)=false:=by simpa using hk3
             have HQ:Hid (r=false):=Lib.hid (by rw [HX.out];simp [hk1,hk2,hk3])
             go_wp2_with (first | (go_at_call 44;(with_reducible refine HWO.out.mono ?_);rintro e w' ⟨rfl,rfl⟩) | (go_at_call 45;(with_reducible refine HWI.out.mono ?_);rintro e w' ⟨rfl,rfl⟩))
             go_ret
             exact ⟨ret_bool HQ.out.symm,HB.out.1⟩
 · have q0:(p == 0)=false:=by simpa using hp0
   by_cases hp9:p=9
   · subst hp9
     cases tw with
     | false =>
       have HQ:Hid (r=false):=Lib.hid (by rw [HX.out];simp)
       go_wp2_with (first | (go_at_call 44;(with_reducible refine HWO.out.mono ?_);rintro e w' ⟨rfl,rfl⟩))
       go_ret
       exact ⟨ret_bool HQ.out.symm,HB.out.1⟩
     | true =>
       cases td with
       | false =>
         have HQ:Hid (r=false):=Lib.hid (by rw [HX.out];simp)
         go_wp2_with (first | (go_at_call 44;(with_reducible refine HWO.out.mono ?_);rintro e w' ⟨rfl,rfl⟩) | (go_at_call 45;(with_reducible refine HWI.out.mono ?_);rintro e w' ⟨rfl,rfl⟩))
         go_ret
         exact ⟨ret_bool HQ.out.symm,HB.out.1⟩
       | true =>
         by_cases hk1:k=1
         · subst hk1
           have HQ:Hid (gs=r):=Lib.hid (by rw [HX.out];simp)
           go_wp2_with (first | (go_at_call 44;(with_reducible refine HWO.out.mono ?_);rintro e w' ⟨rfl,rfl⟩) | (go_at_call 45;(with_reducible refine HWI.out.mono ?_);rintro e w' ⟨rfl,rfl⟩) | ((with_reducible refine wpList_load_all ?_ 28 (.tmp 1) ?_ HB.out.2.1 ?_ Tryz.sizeMedia HB.out.2.2 Tryz.underlying28 ?_ ?_);(with_reducible rfl);(with_reducible rfl);rfl;rfl) | (go_at_call 46;(with_reducible refine HS.out.mono ?_);rintro e w2 ⟨rfl,hb2⟩))
           go_ret
           exact ⟨ret_bool HQ.out,HB.out.1.trans (hb2.mono HSZ.out)⟩
         · by_cases hk2:k=2
           · subst hk2
             have HQ:Hid (gs=r):=Lib.hid (by rw [HX.out];simp)
             go_wp2_with (first | (go_at_call 44;(with_reducible refine HWO.out.mono ?_);rintro e w' ⟨rfl,rfl⟩) | (go_at_call 45;(with_reducible refine HWI.out.mono ?_);rintro e w' ⟨rfl,rfl⟩) | ((with_reducible refine wpList_load_all ?_ 28 (.tmp 1) ?_ HB.out.2.1 ?_ Tryz.sizeMedia HB.out.2.2 Tryz.underlying28 ?_ ?_);(with_reducible rfl);(with_reducible rfl);rfl;rfl) | (go_at_call 46;(with_reducible refine HS.out.mono ?_);rintro e w2 ⟨rfl,hb2⟩))
             go_ret
             exact ⟨ret_bool HQ.out,HB.out.1.trans (hb2.mono HSZ.out)⟩
           · by_cases hk3:k=3
             · subst hk3
               have HQ:Hid (gc=r):=Lib.hid (by rw [HX.out];simp)
               go_wp2_with (first | (go_at_call 44;(with_reducible refine HWO.out.mono ?_);rintro e w' ⟨rfl,rfl⟩) | (go_at_call 45;(with_reducible refine HWI.out.mono ?_);rintro e w' ⟨rfl,rfl⟩) | ((with_reducible refine wpList_load_all ?_ 28 (.tmp 1) ?_ HB.out.2.1 ?_ Tryz.sizeMedia HB.out.2.2 Tryz.underlying28 ?_ ?_);(with_reducible rfl);(with_reducible rfl);rfl;rfl) | (go_at_call 47;(with_reducible refine HCH.out.mono ?_);rintro e w2 ⟨rfl,hb2⟩))
               go_ret
               exact ⟨ret_bool HQ.out,HB.out.1.trans (hb2.mono HSZ.out)⟩
             · have q1:(k == 1)=false:=by simpa using hk1
               have q2:(k == 2)=false:=by simpa using hk2
               have q3:(k == 3)=false:=by simpa using hk3
               have HQ:Hid (r=false):=Lib.hid (by rw [HX.out];simp [hk1,hk2,hk3])
               go_wp2_with (first | (go_at_call 44;(with_reducible refine HWO.out.mono ?_);rintro e w' ⟨rfl,rfl⟩) | (go_at_call 45;(with_reducible refine HWI.out.mono ?_);rintro e w' ⟨rfl,rfl⟩))
               go_ret
               exact ⟨ret_bool HQ.out.symm,HB.out.1⟩
   · have q9:(p == 9)=false:=by simpa using hp9
     have HQ:Hid (r=false):=Lib.hid (by rw [HX.out];simp [hp0,hp9])
     go_wp2
     go_ret
     exact ⟨ret_bool HQ.out.symm,HB.out.1⟩
theorem str_eq {a b:ByteArray} (h:tx a=tx b):Ending.returned (.string a)=Ending.returned (.string b):=by rw [tx_inj h]
theorem typesT_snoc (L:List CodecS) (k:Nat) (hk:k<L.length):typesT (L.take (k+1))=typesT (L.take k)++32 :: decI (L.getD k default).type:=by
 unfold typesT
 rw [List.take_add_one,getD_of hk]
 simp
theorem dec_len:∀(k n:Nat),n<10 ^ (k+1)→(dec n).length≤k+1
 | 0,n,h=>by
   unfold dec
   rw [dif_pos (by omega)]
   simp
 | k+1,n,h=>by
   unfold dec
   split
   · simp
   · rw [List.length_append,List.length_singleton]
     have:=dec_len k (n / 10) (by rw [Nat.pow_succ] at h;omega)
     omega
theorem decI_len {n:Int} (h:n≤9223372036854775807):(bs (decI n)).size≤19:=by
 rw [bs_size]
 exact dec_len 18 _ (by rw [show (10:Nat) ^ (18+1)=10000000000000000000 by decide];omega)
theorem kindW_len (k:Int):(bs (kindW k)).size≤11:=by
 rw [bs_size]
 unfold kindW
 split
 · decide
 · split <;> decide
set_option maxHeartbeats 6400000 in
set_option maxRecDepth 100000 in
theorem line_any (M:Array Value) (m:MediaS) (vC vE vR vS vY:Value) (w:World) (h:MediaV w w.heap.size M m vC vE vR vS vY) (hz:SizM m) (hE:Env w) (hk:1≤m.kind∧m.kind≤3) (hp:0≤m.port∧m.port≤9) (ht:∀c∈m.codecs,0≤c.type∧c.type≤127) :
 Calls Tryz.prog 21 #[.agg M] w fun e w'=>e=.returned (.string (bs (lineM m)))∧Below w.heap.size w w':=by
 obtain ⟨AC,kC,AE,kE,AR,kR,AS,kS,AY,kY,rfl,rfl,rfl,rfl,rfl⟩:=h.forms
 obtain ⟨hform,hvC,hvE,hvR,hvS,hvY⟩:=h
 subst hform
 obtain ⟨nC,hnC⟩:∃n,m.codecs.length=n:=⟨_,rfl⟩
 obtain ⟨nE,hnE⟩:∃n,m.exts.length=n:=⟨_,rfl⟩
 obtain ⟨nR,hnR⟩:∃n,m.rids.length=n:=⟨_,rfl⟩
 obtain ⟨nS,hnS⟩:∃n,m.sources.length=n:=⟨_,rfl⟩
 obtain ⟨nY,hnY⟩:∃n,m.crypto.length=n:=⟨_,rfl⟩
 obtain ⟨hc1,hc2,hc3,hc4,hc5⟩:=hz.counts
 rw [hnC] at hvC hc1
 rw [hnE] at hvE hc2
 rw [hnR] at hvR hc3
 rw [hnS] at hvS hc4
 rw [hnY] at hvY hc5
 rw [hnC,hnE,hnR,hnS,hnY]
 have hb0:Below w.heap.size w (w.alloc (.cells #[.int .i64 m.kind,.int .i64 m.port,.string m.mid,.int .i64 m.dir,.slice AC nC kC,.slice AE nE kE,.slice AR nR kR,.bool m.sending,.slice AS nS kS,.slice AY nY kY,.int .i64 m.sctp] 28)):=(Below.refl _ w).alloc (Nat.le_refl _) _
 have hw:=Whole.new w 28 #[.int .i64 m.kind,.int .i64 m.port,.string m.mid,.int .i64 m.dir,.slice AC nC kC,.slice AE nE kE,.slice AR nR kR,.bool m.sending,.slice AS nS kS,.slice AY nY kY,.int .i64 m.sctp]
 have HV:=Lib.hid (And.intro (hvC.below hb0) hnC)
 have HEN:=Lib.hid (hE.under hb0)
 have HB:=Lib.hid hb0
 have HBX:=Lib.hid hw
 have HT:=Lib.hid ht
 have c0:=hw.cell 0
 have c4:=hw.cell 4
 simp only [List.getElem?_toArray,List.getElem?_cons_zero,List.getElem?_cons_succ] at c0 c4
 obtain ⟨j,hj⟩:∃j:Nat,m.kind=j:=⟨m.kind.toNat,by omega⟩
 have HLN:Hid (lineM m=kindW (j:Int)++32 :: (decI m.port++32 :: (if j=3 then wChannel else wStreams++typesT m.codecs))):=Lib.hid (by
  unfold lineM
  rw [hj]
  congr 4
  by_cases h3:j=3
  · subst h3;rfl
  · rw [if_neg h3,if_neg (by omega)])
 simp only [hj] at hk c0 c4 HV HEN HB HBX ⊢
 rw [HLN.out]
 clear HLN hj
 generalize m.codecs=LC at *
 generalize m.port=p at *
 generalize m.mid=md at *
 generalize m.dir=d at *
 generalize m.sctp=sc at *
 generalize m.sending=sd at *
 clear hz hE ht hb0 hw hvC hvE hvR hvS hvY hnC hnE hnR hnS hnY
 obtain ⟨N,hN⟩:∃N,w.heap.size=N:=⟨_,rfl⟩
 rw [hN] at c0 c4 HB HBX HV ⊢
 go_enter Tryz.func21,Tryz.ntmps21
 go_upto_region 1 with fail
 generalize w.alloc (.cells #[.int .i64 (j:Int),.int .i64 p,.string md,.int .i64 d,.slice AC nC kC,.slice AE nE kE,.slice AR nR kR,.bool sd,.slice AS nS kS,.slice AY nY kY,.int .i64 sc] 28)=W0 at *
 have HN:Hid (N≤W0.heap.size):=Lib.hid (Nat.le_of_lt HBX.out.lt)
 clear hN
 have hj0:(0:Int)≤(j:Int):=by omega
 have hj1:(j:Int)<4:=by omega
 have HG0:Hid (∀W,Below W0.heap.size W0 W→W.cell? ⟨N,0,none⟩=some (.int .i64 (j:Int))):=Lib.hid fun W hW=>(HBX.out.under hW).cell 0
 have HG1:Hid (∀W,Below W0.heap.size W0 W→W.cell? ⟨N,1,none⟩=some (.int .i64 p)):=Lib.hid fun W hW=>(HBX.out.under hW).cell 1
 have HGK:Hid (∀W,Below W0.heap.size W0 W→W.cell? ⟨1,j,none⟩=some (.string (bs (kindW j)))):=Lib.hid fun W hW=>(HEN.out.under hW).kinds j (by omega) (by omega)
 have HIT:Hid (∀W,Below W0.heap.size W0 W→Calls Tryz.prog 48 #[.int .i64 p] W fun e w'=>e=.returned (.string (bs (decI p)))∧Below W.heap.size W w'):=Lib.hid fun W hW=>itoa_any p W (HEN.out.under hW) hp.1 (by omega)
 have HKB:Hid (∀W W',Below W0.heap.size W0 W→Below W.heap.size W W'→Below W0.heap.size W0 W'):=Lib.hid fun W W' h1 h2=>below_chain (Nat.le_refl _) h1 h2
 have HR0:Hid (Below W0.heap.size W0 W0.drew):=Lib.hid (Below.refl _ _).drew
 have HTT:Hid (∀a:ByteArray,tx a=kindW j++[32]++decI p++[32]→tx a=kindW j++32 :: (decI p++[32])):=Lib.hid (fun a e=>by rw [e];simp)
 have hkl:=kindW_len j
 have hpl:=decI_len (n:=p) (by omega)
 obtain ⟨kw,hkw⟩:∃a,bs (kindW j)=a:=⟨_,rfl⟩
 obtain ⟨dp,hdp⟩:∃a,bs (decI p)=a:=⟨_,rfl⟩
 rw [hkw] at hkl HGK
 rw [hdp] at hpl HIT
 have HKW:Hid (tx kw=tx (bs (kindW j))):=Lib.hid (by rw [hkw])
 have HDP:Hid (tx dp=tx (bs (decI p))):=Lib.hid (by rw [hdp])
 clear hkw hdp
 have hs1:¬9223372036854775807<kw.size+1:=by omega
 have hs2:¬9223372036854775807<kw.size+1+dp.size:=by omega
 have hs3:¬9223372036854775807<kw.size+1+dp.size+1:=by omega
 refine wp_region_held_drew (S:=fun W=>Below W0.heap.size W0 W) (by kernel_rfl) HR0.out (fun hHeld=> ?_)
 refine wpAnyH_take (i:=0) (v:=_) rfl (by as_aux_lemma=>kernel_rfl) (by as_aux_lemma=>kernel_rfl) (by as_aux_lemma=>kernel_rfl) (fun _ _ _ h=>h) (Or.inl ⟨by rfl,fun w h=>by have e0:=HG0.out w h;have e1:=HG1.out w h;have e2:=HGK.out w h;clear h;go_simp;(try with_reducible rfl)⟩) (by assumption) ?_
 simp only [Act.put,List.getElem_toArray,List.getElem_cons_succ,List.getElem_cons_zero,List.setIfInBounds_toArray,List.set_cons_succ,List.set_cons_zero]
 refine wpAnyH_take (i:=1) (v:=_) rfl (by as_aux_lemma=>kernel_rfl) (by as_aux_lemma=>kernel_rfl) (by as_aux_lemma=>kernel_rfl) (fun _ _ _ h=>h) (Or.inl ⟨by rfl,fun w h=>by have e0:=HG0.out w h;have e1:=HG1.out w h;have e2:=HGK.out w h;clear h;go_simp;(try with_reducible rfl)⟩) (by assumption) ?_
 simp only [Act.put,List.getElem_toArray,List.getElem_cons_succ,List.getElem_cons_zero,List.setIfInBounds_toArray,List.set_cons_succ,List.set_cons_zero]
 refine wpAnyH_take (i:=2) (v:=_) rfl (by as_aux_lemma=>kernel_rfl) (by as_aux_lemma=>kernel_rfl) (by as_aux_lemma=>kernel_rfl) (fun _ _ _ h=>h) (Or.inl ⟨by rfl,fun w h=>by have e0:=HG0.out w h;have e1:=HG1.out w h;have e2:=HGK.out w h;clear h;go_simp;(try with_reducible rfl)⟩) (by assumption) ?_
 simp only [Act.put,List.getElem_toArray,List.getElem_cons_succ,List.getElem_cons_zero,List.setIfInBounds_toArray,List.set_cons_succ,List.set_cons_zero]
 refine wpAnyH_take (i:=3) (v:=_) rfl (by as_aux_lemma=>kernel_rfl) (by as_aux_lemma=>kernel_rfl) (by as_aux_lemma=>kernel_rfl) (fun _ _ _ h=>h) (Or.inl ⟨by rfl,fun w h=>by have e0:=HG0.out w h;have e1:=HG1.out w h;have e2:=HGK.out w h;clear h;go_simp;(try with_reducible rfl)⟩) (by assumption) ?_
 simp only [Act.put,List.getElem_toArray,List.getElem_cons_succ,List.getElem_cons_zero,List.setIfInBounds_toArray,List.set_cons_succ,List.set_cons_zero]
 refine wpAnyH_take (i:=4) (v:=_) rfl (by as_aux_lemma=>kernel_rfl) (by as_aux_lemma=>kernel_rfl) (by as_aux_lemma=>kernel_rfl) (fun _ _ _ h=>h) (Or.inl ⟨by rfl,fun w h=>by have e0:=HG0.out w h;have e1:=HG1.out w h;have e2:=HGK.out w h;clear h;go_simp;(try with_reducible rfl)⟩) (by assumption) ?_
 simp only [Act.put,List.getElem_toArray,List.getElem_cons_succ,List.getElem_cons_zero,List.setIfInBounds_toArray,List.set_cons_succ,List.set_cons_zero]
 refine wpAnyH_take (i:=5) (v:=_) rfl (by as_aux_lemma=>kernel_rfl) (by as_aux_lemma=>kernel_rfl) (by as_aux_lemma=>kernel_rfl) (fun _ _ _ h=>h) (Or.inl ⟨by rfl,fun w h=>by have e0:=HG0.out w h;have e1:=HG1.out w h;have e2:=HGK.out w h;clear h;go_simp;(try with_reducible rfl)⟩) (by assumption) ?_
 simp only [Act.put,List.getElem_toArray,List.getElem_cons_succ,List.getElem_cons_zero,List.setIfInBounds_toArray,List.set_cons_succ,List.set_cons_zero]
 refine wpAnyH_take (i:=6) (v:=_) rfl (by as_aux_lemma=>kernel_rfl) (by as_aux_lemma=>kernel_rfl) (by as_aux_lemma=>kernel_rfl) (fun _ _ _ h=>h) (Or.inl ⟨by rfl,fun w h=>by have e0:=HG0.out w h;have e1:=HG1.out w h;have e2:=HGK.out w h;clear h;go_simp;(try with_reducible rfl)⟩) (by assumption) ?_
 simp only [Act.put,List.getElem_toArray,List.getElem_cons_succ,List.getElem_cons_zero,List.setIfInBounds_toArray,List.set_cons_succ,List.set_cons_zero]
 refine wpAnyH_ready (rs:=[7]) (by as_aux_lemma=>kernel_rfl) (by simp) ?_
 refine AllReadyH.cons (i:=7) rfl (fun K hK=> ?_) AllReadyH.nil
 go_simp
 refine (HIT.out _ hHeld).mono ?_
 rintro e w4 ⟨rfl,hb4⟩
 refine hK.out _ _ (HKB.out _ _ hHeld hb4) (fun hHeld4=> ?_)
 clear hK K hHeld
 have hHeld:=hHeld4
 clear hHeld4
 refine wpAnyH_take (i:=8) (v:=_) rfl (by as_aux_lemma=>kernel_rfl) (by as_aux_lemma=>kernel_rfl) (by as_aux_lemma=>kernel_rfl) (fun _ _ _ h=>h) (Or.inl ⟨by rfl,fun w h=>by have e0:=HG0.out w h;have e1:=HG1.out w h;have e2:=HGK.out w h;clear h;go_simp;(try with_reducible rfl)⟩) (by assumption) ?_
 simp only [Act.put,List.getElem_toArray,List.getElem_cons_succ,List.getElem_cons_zero,List.setIfInBounds_toArray,List.set_cons_succ,List.set_cons_zero]
 refine wpAnyH_take (i:=9) (v:=_) rfl (by as_aux_lemma=>kernel_rfl) (by as_aux_lemma=>kernel_rfl) (by as_aux_lemma=>kernel_rfl) (fun _ _ _ h=>h) (Or.inl ⟨by rfl,fun w h=>by have e0:=HG0.out w h;have e1:=HG1.out w h;have e2:=HGK.out w h;clear h;go_simp;(try with_reducible rfl)⟩) (by assumption) ?_
 simp only [Act.put,List.getElem_toArray,List.getElem_cons_succ,List.getElem_cons_zero,List.setIfInBounds_toArray,List.set_cons_succ,List.set_cons_zero]
 refine wpAnyH_take (i:=10) (v:=_) rfl (by as_aux_lemma=>kernel_rfl) (by as_aux_lemma=>kernel_rfl) (by as_aux_lemma=>kernel_rfl) (fun _ _ _ h=>h) (Or.inl ⟨by rfl,fun w h=>by have e0:=HG0.out w h;have e1:=HG1.out w h;have e2:=HGK.out w h;clear h;go_simp;(try with_reducible rfl)⟩) (by assumption) ?_
 simp only [Act.put,List.getElem_toArray,List.getElem_cons_succ,List.getElem_cons_zero,List.setIfInBounds_toArray,List.set_cons_succ,List.set_cons_zero]
 refine wpAnyH_done (by as_aux_lemma=>kernel_rfl) ?_ _
 have HH:=Lib.hid hHeld
 clear hHeld HG1 HGK HIT
 have HS0:Hid (tx (kw++⟨#[32]⟩++dp++⟨#[32]⟩)=kindW j++32 :: (decI p++[32])):=Lib.hid (HTT.out _ (by rw [tx_append,tx_append,tx_append,HKW.out,HDP.out,tx_bs,tx_bs];rfl))
 have hs0:(kw++⟨#[32]⟩++dp++⟨#[32]⟩:ByteArray).size≤40:=by
  rw [←tx_length,HS0.out,List.length_append,List.length_cons,List.length_append]
  have h1:=HKW.out
  have h2:=HDP.out
  have e1:(kindW j).length=kw.size:=by rw [←tx_length,h1,tx_bs]
  have e2:(decI p).length=dp.size:=by rw [←tx_length,h2,tx_bs]
  rw [e1,e2]
  simp
  omega
 generalize (kw++⟨#[32]⟩++dp++⟨#[32]⟩:ByteArray)=s0 at *
 generalize w4=w5 at *
 have c0':w5.cell? ⟨N,0,none⟩=some (.int .i64 (j:Int)):=(HBX.out.under HH.out).cell 0
 by_cases h3:j=3
 · subst h3
   have hs4:¬9223372036854775807<s0.size+27:=by omega
   go_wp2
   go_ret
   refine ⟨str_eq ?_,HB.out.trans (HH.out.mono HN.out)⟩
   rw [tx_append,HS0.out,tx_bs]
   simp [tx]
 · have h3':((j:Int) == 3)=false:=by rw [beq_eq_false_iff_ne];omega
   have hs4:¬9223372036854775807<s0.size+9:=by omega
   have c4':w5.cell? ⟨N,4,none⟩=some (.slice AC nC kC):=(HBX.out.under HH.out).cell 4
   have HLC:Hid (LC.length=nC):=Lib.hid HV.out.2
   go_wp2
   go_loopw [26,3] (fun s26 s3 wr=>∃(k:Nat) (acc:ByteArray),k≤nC∧s26=.int .i64 k∧s3=.string acc∧(tx acc=tx s0++(wStreams++typesT (LC.take k))∧acc.size≤60+20 * k∧Below W0.heap.size W0 wr)) (fun s26 _ _=>nC - (intOf s26).toNat)
   case atStart=>exact ⟨0,_,Nat.zero_le _,rfl,rfl,by rw [tx_append];simp [tx,typesT],by rw [←tx_length,tx_append,List.length_append,tx_length];simp [tx];omega,HH.out⟩
   case round =>
    obtain ⟨k,acc,hk',rfl,rfl,hst⟩:=hrel
    have HS:=Lib.hid hst
    clear hst
    have hacc:acc.size≤60+20 * k:=HS.out.2.1
    by_cases hlt:k<nC
    · have hlt':k<LC.length:=by rw [HLC.out];exact hlt
      obtain ⟨ad,c',vf,e1,had,d0,d1,d2,d3,d4,d5,cf⟩:=(HV.out.1.below (HS.out.2.2.mono HN.out)).at_ hlt'
      injection e1 with e1 e1n e1c
      clear e1n e1c
      subst e1
      obtain ⟨Af,kf,hvf,-⟩:=Rows.form cf
      obtain ⟨lf,hlf⟩:∃lf,(LC.getD k default).feedback.length=lf:=⟨_,rfl⟩
      rw [hlf] at hvf
      subst hvf
      clear hlf cf
      have HTY:=HT.out _ (getD_mem hlt')
      have HTS:Hid (typesT (LC.take (k+1))=typesT (LC.take k)++32 :: decI (LC.getD k default).type):=Lib.hid (typesT_snoc LC k hlt')
      obtain ⟨x,hx⟩:∃x,LC.getD k default=x:=⟨_,rfl⟩
      rw [hx] at d0 d1 d2 d3 d4 HTY HTS
      have hk0:(0:Int)≤(k:Int):=by omega
      have hk1:(k:Int)<(nC:Int):=by omega
      have hN0:W0.heap.size≤wr.heap.size:=HS.out.2.2.size
      have HNEW:Hid (Whole (wr.alloc (.cells #[.int .i64 0,.string ⟨#[]⟩,.int .i64 0,.int .i64 0,.string ⟨#[]⟩,.slice none 0 0] 31)) wr.heap.size 31 #[.int .i64 0,.string ⟨#[]⟩,.int .i64 0,.int .i64 0,.string ⟨#[]⟩,.slice none 0 0]):=Lib.hid (Whole.new _ _ _)
      have HW:Hid (Below W0.heap.size W0 ((wr.alloc (.cells #[.int .i64 0,.string ⟨#[]⟩,.int .i64 0,.int .i64 0,.string ⟨#[]⟩,.slice none 0 0] 31)).setRow wr.heap.size #[.int .i64 x.type,.string x.name,.int .i64 x.clock,.int .i64 x.chans,.string x.format,.slice Af lf kf])∧Whole ((wr.alloc (.cells #[.int .i64 0,.string ⟨#[]⟩,.int .i64 0,.int .i64 0,.string ⟨#[]⟩,.slice none 0 0] 31)).setRow wr.heap.size #[.int .i64 x.type,.string x.name,.int .i64 x.clock,.int .i64 x.chans,.string x.format,.slice Af lf kf]) wr.heap.size 31 #[.int .i64 x.type,.string x.name,.int .i64 x.clock,.int .i64 x.chans,.string x.format,.slice Af lf kf]):=Lib.hid ⟨below_row (HS.out.2.2.alloc hN0 _) hN0 _,(Whole.new wr 31 #[.int .i64 0,.string ⟨#[]⟩,.int .i64 0,.int .i64 0,.string ⟨#[]⟩,.slice none 0 0]).row #[.int .i64 x.type,.string x.name,.int .i64 x.clock,.int .i64 x.chans,.string x.format,.slice Af lf kf]⟩
      clear hx had hlt' hN0
      go_upto_region 8 with ((with_reducible refine wpList_storeS #[.int .i64 x.type,.string x.name,.int .i64 x.clock,.int .i64 x.chans,.string x.format,.slice Af lf kf] ?_ 31 (.tmp 5) (.tmp 29) ?_ ?_ ?_ HNEW.out Tryz.sizeCodec ?_ ?_ ?_ ?_);(with_reducible rfl);(with_reducible rfl);rfl;rfl;rfl;rfl;rfl)
      generalize ((wr.alloc (.cells #[.int .i64 0,.string ⟨#[]⟩,.int .i64 0,.int .i64 0,.string ⟨#[]⟩,.slice none 0 0] 31)).setRow wr.heap.size #[.int .i64 x.type,.string x.name,.int .i64 x.clock,.int .i64 x.chans,.string x.format,.slice Af lf kf])=w2 at *
      generalize wr.heap.size=g at *
      clear d0 d1 d2 d3 d4 d5 HNEW
      have g0:w2.cell? ⟨g,0,none⟩=some (.int .i64 x.type):=HW.out.2.cell 0
      have HIT:Hid (Calls Tryz.prog 48 #[.int .i64 x.type] w2 fun e w'=>e=.returned (.string (bs (decI x.type)))∧Below w2.heap.size w2 w'):=Lib.hid (itoa_any x.type w2 (HEN.out.under HW.out.1) HTY.1 (by omega))
      have hdl:=decI_len (n:=x.type) (by omega)
      obtain ⟨dt,hdt⟩:∃dt,bs (decI x.type)=dt:=⟨_,rfl⟩
      rw [hdt] at HIT hdl
      have HDT:=Lib.hid hdt
      clear hdt
      have q1:¬9223372036854775807<1+dt.size:=by omega
      have q2:¬9223372036854775807<acc.size+(1+dt.size):=by omega
      go_wp2_with (go_at_call 48;(with_reducible refine HIT.out.mono ?_);rintro e w3 ⟨rfl,hb3⟩)
      go_roundw
      case rel =>
       refine ⟨k+1,_,by omega,by go_num,rfl,?_,?_,HW.out.1.trans (hb3.mono HW.out.1.size)⟩
       · rw [tx_append,tx_append,HS.out.1,HTS.out,←HDT.out,tx_bs]
         simp [tx]
       · rw [←tx_length,tx_append,tx_append,List.length_append,List.length_append,tx_length,tx_length,tx_length]
         show acc.size+(1+dt.size)≤_
         omega
      case measure=>simp [intOf];omega
    · have e:k=nC:=by omega
      subst e
      have HQ:Hid (tx acc=tx s0++(wStreams++typesT LC)):=Lib.hid (by rw [HS.out.1,List.take_of_length_le (by rw [HLC.out];exact Nat.le_refl _)])
      go_wp2
      go_ret
      refine ⟨str_eq ?_,HB.out.trans (HS.out.2.2.mono HN.out)⟩
      rw [HQ.out,HS0.out,tx_bs]
      simp
end Go.Proofs.YtgnpckelbokniaaGreatDoor
namespace Go.Proofs.YtgnpckelbokniaaGreatDoor
open Go.RowKit Go.Lib Go.Sort
set_option linter.unusedVariables false
set_option linter.unusedSimpArgs false
theorem Tryz.arr24:Tryz.prog.arrayLen 201=24:=by kernel_rfl
theorem holds_zero0 (w:World) (T:TypeId) (nd:Nat) (hs:nd≤24):Holds (fun (b:UInt8)=>Value.int .u8 (b.toNat:Int)) (w.alloc (.cells Lib.zeros24 T)) w.heap.size 0 (Array.replicate nd (0:UInt8)):=fun j hj=>by
 have hj':j<nd:=by simpa using hj
 refine ⟨?_,World.frozen?_alloc_new _ _ _ _⟩
 rw [World.cell?_alloc_new,Lib.zeros24_at _ (by omega),getElem!_pos _ j hj]
 simp
set_option maxHeartbeats 3200000 in
set_option maxRecDepth 100000 in
theorem iFormatUint_any (u:Nat) (w:World) (hE:Env w) (h1:u<18446744073709551616):Calls Tryz.prog 110 #[.int .u64 u,.int .i64 10] w fun e w'=>e=.returned (.string (bs (dec u)))∧Below w.heap.size w w':=by
 by_cases hs:u<100
 · have HC:=Lib.hid (Tryz.internal_strconv_small u hs w)
   have hs1:(u:Int)<100:=by omega
   have hs0:(0:Int)≤(u:Int):=by omega
   have e1:IntKind.i64.wrap (u:Int)=(u:Int):=IntWalk.i64_in _ (by omega)
   have HD:=Lib.hid (dec_eq u)
   go_enter Tryz.func110,Tryz.ntmps110
   go_wp2_with (go_at_call 161;(with_reducible refine HC.out.mono ?_);rintro e w1 ⟨rfl,rfl⟩)
   go_ret
   exact ⟨by rw [HD.out];rfl,Below.refl _ _⟩
 · have hs1:(100:Int)≤(u:Int):=by omega
   have hu1:1≤u:=by omega
   have hnd20:Lib.nDigits u≤20:=by have:=Lib.numDigits_eq u hu1 h1;split at this <;> omega
   have hsl1:∀W,(Instr.sliceAt 201 (.pointer (some ⟨w.heap.size,0,none⟩)) none (some (.int .i64 (Lib.nDigits u:Int))) none).run Tryz.prog W=.ok (.slice (some ⟨w.heap.size,0,none⟩) (Lib.nDigits u) 24) W:=fun W=>by
    rw [run_sliceAt_array_h W 201 ⟨w.heap.size,0,none⟩ (by simp [Program.arrayLen,Program.elem,Tryz.underlying201]) .i64 (Lib.nDigits u:Int) (by omega) (by rw [Tryz.arr24];omega)]
    go_simp
    first | done | omega | (rw [Tryz.arr24];simp)
   have hH0:=holds_zero0 w 201 (Lib.nDigits u) (by omega)
   have hfmt:=Tryz.internal_strconv_formatBase10 w.heap.size 0 24 u (Array.replicate (Lib.nDigits u) 0) (w.alloc (.cells Lib.zeros24 201)) hH0 (by rw [Array.size_replicate];exact Lib.lt_pow_nDigits u) h1 (by rw [Array.size_replicate];omega)
   rw [Array.size_replicate] at hfmt
   have HH0:=Lib.hid hH0
   have HF:=Lib.hid hfmt
   have HN:=Lib.hid (Tryz.internal_strconv_numDigits u hu1 h1 (w.alloc (.cells Lib.zeros24 201)) (Lib.tabIs_alloc hE.tab _))
   have HD:=Lib.hid (dec_eq u)
   clear hH0 hfmt
   go_enter Tryz.func110,Tryz.ntmps110
   go_upto_region 7 with (first | (go_at_call 162;(refine HN.out.mono ?_);rintro e w' ⟨rfl,rfl⟩) | (go_at_call 163;(refine HF.out.mono ?_);rintro e w' ⟨rfl,k,v',dk,rfl,hF⟩))
   have hcv:(convert 53 9 (.slice (some ⟨w.heap.size,0,none⟩) (Lib.nDigits u) 24)).run Tryz.prog ((putRow (fun (b:UInt8)=>Value.int .u8 (b.toNat:Int)) (w.alloc (.cells Lib.zeros24 201)) w.heap.size 0 dk).drewN k)=.ok (.string ⟨(Lib.decDigits u).toArray⟩) ((putRow (fun (b:UInt8)=>Value.int .u8 (b.toNat:Int)) (w.alloc (.cells Lib.zeros24 201)) w.heap.size 0 dk).drewN k):=by
    have h:=run_convert_bytes_back (P:=Tryz.prog) ((putRow (fun (b:UInt8)=>Value.int .u8 (b.toNat:Int)) (w.alloc (.cells Lib.zeros24 201)) w.heap.size 0 dk).drewN k) 53 9 5 ⟨w.heap.size,0,none⟩ 24 (Lib.decDigits u) Tryz.underlying53 Tryz.underlying5 Tryz.underlying9 (fun j hj=>by
     rw [Lib.row_is_numeral hF j hj,Lib.add_plain,World.cell?_drewN]
     exact cell?_putRow (fun (b:UInt8)=>Value.int .u8 (b.toNat:Int)) _ w.heap.size 0 _ dk HH0.out (by rw [hF.size,Array.size_replicate]) j (by rw [hF.size];rw [Lib.decDigits_length] at hj;exact hj))
    rw [Lib.decDigits_length] at h
    exact h
   have HBL:Hid (Below w.heap.size w ((putRow (fun (b:UInt8)=>Value.int .u8 (b.toNat:Int)) (w.alloc (.cells Lib.zeros24 201)) w.heap.size 0 dk).drewN k)):=Lib.hid (by
    rw [alloc_eq_grow]
    obtain ⟨os',_,e⟩:=putRow_grow_new (fun (b:UInt8)=>Value.int .u8 (b.toNat:Int)) w #[.cells Lib.zeros24 201] w.heap.size 0 dk (Nat.le_refl _)
    rw [e]
    exact Lib.below_grow _ w (Nat.le_refl _) k os')
   go_wp2
   go_ret
   exact ⟨by rw [HD.out];rfl,HBL.out⟩
set_option maxHeartbeats 800000 in
theorem formatUint_any (u:Nat) (w:World) (hE:Env w) (h1:u<18446744073709551616):Calls Tryz.prog 51 #[.int .u64 u,.int .i64 10] w fun e w'=>e=.returned (.string (bs (dec u)))∧Below w.heap.size w w':=by
 have HC:=Lib.hid (iFormatUint_any u w hE h1)
 go_enter Tryz.func51,Tryz.ntmps51
 go_wp2_with (go_at_call 110;(with_reducible refine HC.out.mono ?_);rintro e w1 ⟨rfl,hb1⟩)
 go_ret
 exact ⟨rfl,hb1⟩
end Go.Proofs.YtgnpckelbokniaaGreatDoor
namespace Go.Proofs.YtgnpckelbokniaaGreatDoor
open Go.RowKit
set_option linter.unusedVariables false
set_option linter.unusedSimpArgs false
theorem Tryz.sizeBuilder:∃j,Tryz.prog.info? 172=some j∧j.size=2:=by
 have h:(Tryz.prog.info? 172).map (·.size)=some 2:=by kernel_rfl
 exact Option.map_eq_some_iff.1 h
theorem Tryz.liesBuilder:liesAt Tryz.prog Tryz.prog.depth 172 (2 / Tryz.prog.cellsOf 172) 0 172 1=true:=by kernel_rfl
set_option maxHeartbeats 1000000 in
set_option maxRecDepth 100000 in
theorem copyCheck_used (b:Nat) (w:World) (h0:w.cell? ⟨b,0,none⟩=some (.pointer (some ⟨b,0,none⟩))) :
 Calls Tryz.prog 165 #[.pointer (some ⟨b,0,none⟩)] w fun e w'=>e=.returned (.tuple #[])∧w'=w:=by
 obtain ⟨j,hj,_⟩:=Tryz.sizeBuilder
 go_enter Tryz.func165,Tryz.ntmps165
 go_wp2
 rw [Lib.run_neq_ptr_same w _ Tryz.underlying170 hj]
 go_wp2
 go_end0
 exact ⟨rfl,rfl⟩
set_option maxHeartbeats 1000000 in
set_option maxRecDepth 100000 in
theorem copyCheck_fresh (b:Nat) (w:World) (h0:w.cell? ⟨b,0,none⟩=some (.pointer none)) (hsh:w.shape? b=some (172,2)) (hfz:w.frozen? ⟨b,0,none⟩=false) :
 Calls Tryz.prog 165 #[.pointer (some ⟨b,0,none⟩)] w fun e w'=>e=.returned (.tuple #[])∧w'=w.setCell ⟨b,0,none⟩ (.pointer (some ⟨b,0,none⟩)):=by
 obtain ⟨j,hj,hjs⟩:=Tryz.sizeBuilder
 go_enter Tryz.func165,Tryz.ntmps165
 go_wp2
 rw [Lib.run_to_unsafe w ⟨b,0,none⟩ Tryz.underlying170 Tryz.underlying225 hj (by rw [hjs];decide) hsh (Nat.zero_lt_succ 1)]
 simp only [Result.andThen]
 rw [Oper.upon_value]
 go_wp2
 rw [run_callFunc_extern Tryz.func192 (by kernel_rfl) (by kernel_rfl) (by kernel_rfl) (e:=Extern.AbiNoEscape.same) (by kernel_rfl)]
 rw [Lib.run_noEscape]
 simp only [Result.andThen]
 rw [Oper.upon_value]
 go_wp2
 rw [Lib.run_from_unsafe w ⟨b,0,none⟩ Tryz.underlying225 Tryz.underlying170 hj hsh Tryz.liesBuilder]
 simp only [Result.andThen]
 rw [Oper.upon_value]
 go_wp2
 go_end0
 exact ⟨rfl,rfl⟩
theorem copyCheck_any (B b:Nat) (bs:List Value) (w:World) (h:Lib.IsBuilder 172 5 B b bs w) :
 Calls Tryz.prog 165 #[.pointer (some ⟨b,0,none⟩)] w fun e w'=>e=.returned (.tuple #[])∧(Lib.BuilderAt 172 5 B b (.pointer (some ⟨b,0,none⟩)) bs w'∧Below B w w'):=by
 rcases h with h | h
 · refine (copyCheck_fresh b w h.cell0 h.shape h.frozen0).mono ?_
   rintro e w' ⟨rfl,rfl⟩
   exact ⟨rfl,h.used _,(Below.refl B w).setCell (p:=⟨b,0,none⟩) h.1 _⟩
 · refine (copyCheck_used b w h.cell0).mono ?_
   rintro e w' ⟨rfl,rfl⟩
   exact ⟨rfl,h,Below.refl B _⟩
set_option maxHeartbeats 2000000 in
set_option maxRecDepth 100000 in
theorem writeByte_any (B b:Nat) (bs:List Value) (c:Int) (w:World) (h:Lib.IsBuilder 172 5 B b bs w) (hlen:bs.length+1≤140737488355328) (hBw:B≤w.heap.size) :
 Calls Tryz.prog 111 #[.pointer (some ⟨b,0,none⟩),.int .u8 c] w fun e w'=>e=.returned .nilIface∧(Lib.IsBuilder 172 5 B b (bs++[.int .u8 c]) w'∧Below B w w'):=by
 have hinfo:(Tryz.prog.info? 5).map (fun i=>(i.zero,i.size,i.bytes))=some (some (.int .u8 0),1,1):=by kernel_rfl
 obtain ⟨i0,hi,hz0,hz1,hz2⟩:=info_parts hinfo
 have HCC:=Lib.hid (copyCheck_any B b bs w h)
 go_enter Tryz.func111,Tryz.ntmps111
 go_wp2_with (go_at_call 165;refine HCC.out.mono ?_)
 rintro e w1 ⟨rfl,h1,hb1⟩
 obtain ⟨hB,v,hbk,hown,hne⟩:=h1
 have c0:w1.cell? ⟨b,0,none⟩=some (.pointer (some ⟨b,0,none⟩)):=by rw [Lib.cell_of_heap hbk];rfl
 have c1:w1.cell? ⟨b,1,none⟩=some v:=by rw [Lib.cell_of_heap hbk];rfl
 go_wp2_with (at_builtin;refine wpList_append_own _ rfl _ _ 53 rfl B 5 i0 (.int .u8 0) 1 1 Tryz.underlying53 hi hz0 hz1 hz2 rfl (by decide) _ _ _ rfl (hown.alloc _) ⟨w1.heap.size,0,none⟩ 1 1 [.int .u8 c] rfl rfl ?c1 ?c2 ?c3 ?c4 ?c5 ?_)
 case c1 =>
  intro j u hj
  match j,hj with
  | 0,hj=>simp at hj;subst hj;simp [Addr.add]
 case c2=>intro u hu;simp at hu;subst hu;rfl
 case c3=>unfold maxLen;omega
 case c4=>omega
 case c5=>have:=hb1.size;simp;omega
 intro v' w2 hown' hgrow _
 have hlt:b<w1.heap.size:=by
  rcases Nat.lt_or_ge b w1.heap.size with h' | h'
  · exact h'
  · simp [Array.getElem?_eq_none h'] at hbk
 have hb2:w2.heap[b]? = some (.cells #[.pointer (some ⟨b,0,none⟩),v] 172 (0,0)):=by
  rw [hgrow.block b (by simp;omega) (fun e=>hne e.symm),Lib.alloc_old w1 _ b hlt]
  exact hbk
 have d0:w2.cell? ⟨b,0,none⟩=some (.pointer (some ⟨b,0,none⟩)):=by rw [Lib.cell_of_heap hb2];rfl
 have d1:w2.cell? ⟨b,1,none⟩=some v:=by rw [Lib.cell_of_heap hb2];rfl
 have f1:w2.frozen? ⟨b,1,none⟩=false:=Lib.frozen_of_heap hb2 1
 obtain ⟨g,cap,rfl⟩:∃g cap,v'=.slice (some ⟨g,0,none⟩) (bs.length+1) cap:=by
  rcases hown'.2 with ⟨_,h0⟩ | ⟨g,cap,cur,hv,_⟩
  · omega
  · exact ⟨g,cap,hv⟩
 go_wp2
 go_ret
 refine ⟨rfl,.inr ?_,?_⟩
 · exact Lib.BuilderAt.put (T:=172) (e:=5) hB hb2 (bs':=bs++[.int .u8 c]) (by simpa using hown') (by decide)
 · exact ((hb1.alloc (by have:=hb1.size;omega) _).grown hgrow (by have:=hb1.size;simp;omega) (fun k hk=>(hown.lt k hk).1)).setCell (p:=⟨b,1,none⟩) hB _
theorem nat_or (x y k:Nat) (hy:y<2 ^ k):x * 2 ^ k ||| y=x * 2 ^ k+y:=by rw [←Nat.shiftLeft_eq,Nat.shiftLeft_add_eq_or_of_lt hy]
theorem and63 (n:Nat):n &&& 63=n % 64:=Nat.and_two_pow_sub_one_eq_mod n 6
def num3 (a b c:UInt8):Nat:=a.toNat * 65536+b.toNat * 256+c.toNat
theorem num3_lt (a b c:UInt8):num3 a b c<16777216:=by
 have:=a.toNat_lt
 have:=b.toNat_lt
 have:=c.toNat_lt
 unfold num3
 omega
set_option maxRecDepth 100000 in
theorem or3 (a b c:UInt8):(a.toNat * 65536 ||| b.toNat * 256) ||| c.toNat=num3 a b c:=by
 have h2:=b.toNat_lt
 have h3:=c.toNat_lt
 have e1:=nat_or a.toNat (b.toNat * 256) 16 (by omega)
 have e2:=nat_or (a.toNat * 256+b.toNat) c.toNat 8 (by omega)
 rw [show (2:Nat) ^ 16=65536 by decide] at e1
 rw [show (2:Nat) ^ 8=256 by decide] at e2
 rw [e1]
 have e3:a.toNat * 65536+b.toNat * 256=(a.toNat * 256+b.toNat) * 256:=by omega
 rw [e3,e2]
 unfold num3
 omega
set_option maxRecDepth 100000 in
theorem or3_u32 (a b c:UInt8):bits BinOp.or IntKind.u32 (bits BinOp.or IntKind.u32 ((a.toNat:Int) % 4294967296 * 65536 % 4294967296) ((b.toNat:Int) % 4294967296 * 256 % 4294967296)) ((c.toNat:Int) % 4294967296)=((num3 a b c:Nat):Int):=by
 have h1:=a.toNat_lt
 have h2:=b.toNat_lt
 have h3:=c.toNat_lt
 rw [show ((a.toNat:Int) % 4294967296 * 65536 % 4294967296)=((a.toNat * 65536:Nat):Int) by omega,show ((b.toNat:Int) % 4294967296 * 256 % 4294967296)=((b.toNat * 256:Nat):Int) by omega,show ((c.toNat:Int) % 4294967296)=((c.toNat:Nat):Int) by omega,
  u32_or_nat _ _ (by omega) (by omega),u32_or_nat _ _ (Nat.or_lt_two_pow (n:=32) (by omega) (by omega)) (by omega),or3]
theorem encK_snoc (a b c:UInt8):∀(t:Nat) (l:Tx),l.length=3 * t→encK (l++[a,b,c])=encK l++enc3 a b c
 | 0,l,h=>by
   obtain rfl:l=[]:=List.eq_nil_of_length_eq_zero (by omega)
   simp [encK]
 | t+1,l,h=>by
   match l,h with
   | x :: y :: z :: r,h =>
     have:=encK_snoc a b c t r (by simp at h;omega)
     simp only [List.cons_append,encK,this,List.append_assoc]
theorem encK_step {k:Tx} (hk:k.length=30) {t:Nat} (ht:t<10):∃a b c:UInt8,k[3 * t]? = some a∧k[3 * t+1]? = some b∧k[3 * t+2]? = some c∧encK (k.take (3 * (t+1)))=encK (k.take (3 * t))++enc3 a b c:=by
 refine ⟨k[3 * t],k[3 * t+1],k[3 * t+2],List.getElem?_eq_getElem (by omega),List.getElem?_eq_getElem (by omega),List.getElem?_eq_getElem (by omega),?_⟩
 have e:k.take (3 * (t+1))=k.take (3 * t)++[k[3 * t],k[3 * t+1],k[3 * t+2]]:=by
  rw [show 3 * (t+1)=3 * t+3 by omega,List.take_add,List.drop_eq_getElem_cons (by omega),List.drop_eq_getElem_cons (by omega),List.drop_eq_getElem_cons (by omega)]
  rfl
 rw [e,encK_snoc _ _ _ t _ (by rw [List.length_take];omega)]
theorem encK_len:∀(t:Nat) (l:Tx),l.length=3 * t→(encK l).length=4 * t
 | 0,l,h=>by
   obtain rfl:l=[]:=List.eq_nil_of_length_eq_zero (by omega)
   rfl
 | t+1,l,h=>by
   match l,h with
   | x :: y :: z :: r,h =>
     have:=encK_len t r (by simp at h;omega)
     simp only [encK,enc3,List.length_append,List.length_cons,List.length_nil,this]
     omega
abbrev letS:ByteArray:=bs wLetters
theorem letS_size:letS.size=64:=by rw [bs_size];rfl
theorem letS_at (v:Nat) (h:v<letS.size):letS[v]'h=letter v:=by
 have hl:v<64:=by rw [letS_size] at h;exact h
 have hw:wLetters.length=64:=rfl
 unfold letter
 rw [List.getD_eq_getElem?_getD,List.getElem?_eq_getElem (by omega)]
 rfl
end Go.Proofs.YtgnpckelbokniaaGreatDoor
namespace Go.Proofs.YtgnpckelbokniaaGreatDoor
set_option linter.unusedVariables false
set_option linter.unusedSimpArgs false
def sixP (c:UInt8):Nat:=if Lib.indexByte wLetters c=-1 then 63 else (Lib.indexByte wLetters c).toNat
theorem sixP_lt (c:UInt8):sixP c<64:=by
 unfold sixP
 split
 · decide
 · next h =>
   have hge:=Lib.indexByte_ge wLetters c
   obtain ⟨k,hk⟩:∃k:Nat,Lib.indexByte wLetters c=k:=⟨(Lib.indexByte wLetters c).toNat,by omega⟩
   obtain ⟨h1,-⟩:=Lib.indexByte_some hk
   have:k<wLetters.length:=(List.getElem?_eq_some_iff.1 h1).1
   rw [hk]
   exact this
set_option maxRecDepth 100000 in
theorem sixP_letter:∀v,v<64→sixP (letter v)=v:=by
 decide +kernel
def num4 (a b c d:UInt8):Nat:=((sixP a * 64+sixP b) * 64+sixP c) * 64+sixP d
theorem num4_lt (a b c d:UInt8):num4 a b c d<16777216:=by
 have:=sixP_lt a
 have:=sixP_lt b
 have:=sixP_lt c
 have:=sixP_lt d
 unfold num4
 omega
def dec4 (a b c d:UInt8):Tx:=[UInt8.ofNat (num4 a b c d / 65536),UInt8.ofNat (num4 a b c d / 256),UInt8.ofNat (num4 a b c d)]
def decK:Tx→Tx
 | a :: b :: c :: d :: r=>dec4 a b c d++decK r
 | _=>[]
theorem u8_ne7 {n:Nat} {a:UInt8} (h:n % 256=a.toNat):UInt8.ofNat n=a:=by
 apply UInt8.toNat_inj.1
 rw [UInt8.toNat_ofNat']
 exact h
theorem dec4_enc3 (a b c:UInt8) (r:Tx):decK (enc3 a b c++r)=[a,b,c]++decK r:=by
 have h1:=a.toNat_lt
 have h2:=b.toNat_lt
 have h3:=c.toNat_lt
 have hn:=num3_lt a b c
 have e:num4 (letter (num3 a b c / 262144)) (letter (num3 a b c / 4096 % 64)) (letter (num3 a b c / 64 % 64)) (letter (num3 a b c % 64))=num3 a b c:=by
  unfold num4
  rw [sixP_letter _ (by omega),sixP_letter _ (by omega),sixP_letter _ (by omega),sixP_letter _ (by omega)]
  omega
 show dec4 (letter (num3 a b c / 262144)) (letter (num3 a b c / 4096 % 64)) (letter (num3 a b c / 64 % 64)) (letter (num3 a b c % 64))++decK r=_
 unfold dec4
 rw [e,u8_ne7 (a:=a) (by unfold num3;omega),u8_ne7 (a:=b) (by unfold num3;omega),u8_ne7 (a:=c) (by unfold num3;omega)]
theorem decK_encK:∀(t:Nat) (k:Tx),k.length=3 * t→decK (encK k)=k
 | 0,k,h=>by
   obtain rfl:k=[]:=List.eq_nil_of_length_eq_zero (by omega)
   rfl
 | t+1,k,h=>by
   match k,h with
   | a :: b :: c :: r,h =>
     have:=decK_encK t r (by simp at h;omega)
     show decK (enc3 a b c++encK r)=_
     rw [dec4_enc3,this]
     rfl
theorem decK_len:∀(t:Nat) (l:Tx),l.length=4 * t→(decK l).length=3 * t
 | 0,l,h=>by
   obtain rfl:l=[]:=List.eq_nil_of_length_eq_zero (by omega)
   rfl
 | t+1,l,h=>by
   match l,h with
   | a :: b :: c :: d :: r,h =>
     have:=decK_len t r (by simp at h;omega)
     show (dec4 a b c d++decK r).length=_
     rw [List.length_append,this]
     show 3+3 * t=_
     omega
theorem decK_snoc (a b c d:UInt8):∀(t:Nat) (l:Tx),l.length=4 * t→decK (l++[a,b,c,d])=decK l++dec4 a b c d
 | 0,l,h=>by
   obtain rfl:l=[]:=List.eq_nil_of_length_eq_zero (by omega)
   rfl
 | t+1,l,h=>by
   match l,h with
   | x :: y :: z :: u :: r,h =>
     have:=decK_snoc a b c d t r (by simp at h;omega)
     show dec4 x y z u++decK (r++[a,b,c,d])=(dec4 x y z u++decK r)++dec4 a b c d
     rw [this,List.append_assoc]
def keyP (l:Tx):Tx:=if l.length=40 then decK l else List.replicate 30 0
theorem keyP_enc {k:Tx} (h:k.length=30):keyP (encK k)=k:=by
 unfold keyP
 rw [if_pos (by rw [encK_len 10 k (by omega)]),decK_encK 10 k (by omega)]
abbrev wInl:Tx:=[105,110,108,105,110,101,58]
def cryP (l:Tx):CryptoS:=⟨numP (hd l),keyP (Lib.trimPrefix (tl (tl l)) wInl)⟩
def rP:Rdr:=⟨numP,srcP,cryP,fun _=>0⟩
theorem decI_le {n:Int} (h0:0≤n) (h1:n≤1000000):numP (decI n)=n:=by
 unfold decI
 rw [numP_dec (by omega)]
 omega
theorem rP_law:rP.Law where
 num n h:=numP_dec h
 src n h:=srcP_dec h
 cry c h1 h9 hk:=by
  have e1:hd (cryptoT c)=decI c.tag:=hd_at _ _ (decI_32 _)
  have e2:tl (cryptoT c)=wSuite++32 :: (wInl++encK c.key):=tl_at (decI c.tag) (wSuite++32 :: (wInl++encK c.key)) (decI_32 _)
  have e3:tl (tl (cryptoT c))=wInl++encK c.key:=by rw [e2];exact tl_at _ _ (by decide)
  have e4:Lib.trimPrefix (wInl++encK c.key) wInl=encK c.key:=by
   unfold Lib.trimPrefix
   rw [if_pos (by unfold Lib.hasPrefix;simp)]
   rfl
  show cryP (cryptoT c)=c
  unfold cryP
  rw [e1,e3,e4,keyP_enc hk,decI_le (by omega) (by omega)]
 still:=rfl
end Go.Proofs.YtgnpckelbokniaaGreatDoor
namespace Go.Proofs.YtgnpckelbokniaaGreatDoor
open Go.RowKit
set_option linter.unusedVariables false
set_option linter.unusedSimpArgs false
theorem cut_none {l:Tx} {c:UInt8} (h:Lib.indexByte l c=-1):cutS [c] l=(l,[],false):=by
 have h1:=Lib.indexByte_none h
 exact cutS_free (c0:=c) (t:=[]) l (fun d hd e=>by
  subst e
  obtain ⟨k,hk⟩:=List.mem_iff_getElem?.1 hd
  exact h1 k hk)
theorem cut_some {l:Tx} {c:UInt8} {k:Nat} (h:Lib.indexByte l c=k):cutS [c] l=(l.take k,l.drop (k+1),true)∧k<l.length:=by
 obtain ⟨h1,h2⟩:=Lib.indexByte_some h
 have hk:k<l.length:=(List.getElem?_eq_some_iff.1 h1).1
 have e:l=l.take k++c :: l.drop (k+1):=by
  have h3:l[k]=c:=by rw [List.getElem?_eq_getElem hk] at h1;exact Option.some.inj h1
  rw [←h3,←List.drop_eq_getElem_cons hk,List.take_append_drop]
 refine ⟨?_,hk⟩
 conv=>lhs;rw [e]
 exact cut_at _ _ (fun d hd e2=>by
  subst e2
  obtain ⟨j,hj⟩:=List.mem_iff_getElem?.1 hd
  have hjl:j<k:=by
   have:=(List.getElem?_eq_some_iff.1 hj).1
   rw [List.length_take] at this
   omega
  rw [List.getElem?_take,if_pos hjl] at hj
  exact h2 j hjl hj)
set_option maxHeartbeats 800000 in
set_option maxRecDepth 10000 in
theorem slCut_any (s:ByteArray) (c:UInt8) (w:World) (hs:s.size≤281474976710656):Calls Tryz.prog 133 #[.string s,.string ⟨#[c]⟩] w fun e w'=>e=.returned (.tuple #[.string (bs (cutS [c] (tx s)).1),.string (bs (cutS [c] (tx s)).2.1),.bool (cutS [c] (tx s)).2.2])∧Below w.heap.size w w':=by
 have HI:=Lib.hid (Tryz.stringslite_Index_one s c w)
 have hge:=Lib.indexByte_ge s.data.toList c
 by_cases h:Lib.indexByte s.data.toList c=-1
 · have HC:Hid (cutS [c] (tx s)=(tx s,[],false)):=Lib.hid (cut_none h)
   rw [HC.out]
   rw [h] at HI
   clear HC h hge
   go_enter Tryz.func133,Tryz.ntmps133
   go_wp2_with (go_at_call 175;(with_reducible refine HI.out.mono ?_);rintro e w1 ⟨rfl,rfl⟩)
   go_ret3
   exact ⟨by rw [bs_tx];rfl,Below.refl _ _⟩
 · obtain ⟨k,hk⟩:∃k:Nat,Lib.indexByte s.data.toList c=k:=⟨(Lib.indexByte s.data.toList c).toNat,by omega⟩
   obtain ⟨h1,h2⟩:=cut_some (l:=tx s) hk
   have HC:Hid (cutS [c] (tx s)=((tx s).take k,(tx s).drop (k+1),true)):=Lib.hid h1
   rw [tx_length] at h2
   rw [HC.out]
   rw [hk] at HI
   have HT:Hid (∀a b:ByteArray,a=s.extract 0 k→b=s.extract (k+1) s.size→Ending.returned (.tuple #[.string a,.string b,.bool true])=.returned (.tuple #[.string (bs ((tx s).take k)),.string (bs ((tx s).drop (k+1))),.bool true])):=Lib.hid fun a b ha hb=>by
    have e1:a=bs ((tx s).take k):=tx_inj (by rw [ha,tx_extract,tx_bs,List.drop_zero,Nat.sub_zero])
    have e2:b=bs ((tx s).drop (k+1)):=tx_inj (by rw [hb,tx_extract,tx_bs,List.take_of_length_le (by rw [List.length_drop,tx_length];exact Nat.le_refl _)])
    rw [e1,e2]
   have hk0:(0:Int)≤(k:Int):=by omega
   have hk1:(k:Int)<(s.size:Int):=by omega
   have hk2:(k:Int)+1≤(s.size:Int):=by omega
   have hkw:IntKind.i64.wrap ((k:Int)+1)=((k+1:Nat):Int):=(IntWalk.i64_in _ (by omega)).trans (by omega)
   have hk3:((k+1:Nat):Int)≤(s.size:Int):=by omega
   have hk4:(0:Int)≤((k+1:Nat):Int):=by omega
   have hk5:k≤s.size:=by omega
   have hk6:k+1≤s.size:=by omega
   clear HC h hge hk h1
   go_enter Tryz.func133,Tryz.ntmps133
   go_upto_region 3 with (go_at_call 175;(with_reducible refine HI.out.mono ?_);rintro e w1 ⟨rfl,rfl⟩)
   go_quiet (fail)
   go_wp2
   go_ret3
   exact ⟨HT.out _ _ rfl rfl,below_drewN' (Below.refl _ _) _⟩
set_option maxHeartbeats 800000 in
theorem cut1_any (s:ByteArray) (c:UInt8) (w:World) (hs:s.size≤281474976710656):Calls Tryz.prog 75 #[.string s,.string ⟨#[c]⟩] w fun e w'=>e=.returned (.tuple #[.string (bs (cutS [c] (tx s)).1),.string (bs (cutS [c] (tx s)).2.1),.bool (cutS [c] (tx s)).2.2])∧Below w.heap.size w w':=by
 have HC:=Lib.hid (slCut_any s c w hs)
 generalize bs (cutS [c] (tx s)).1=a at *
 generalize bs (cutS [c] (tx s)).2.1=b at *
 generalize (cutS [c] (tx s)).2.2=f at *
 go_enter Tryz.func75,Tryz.ntmps75
 go_wp2_with (go_at_call 133;(with_reducible refine HC.out.mono ?_);rintro e w1 ⟨rfl,hb1⟩)
 go_ret3
 exact ⟨rfl,hb1⟩
set_option maxHeartbeats 800000 in
theorem cutc_any (s:ByteArray) (w:World) (hs:s.size≤281474976710656):Calls Tryz.prog 53 #[.string s] w fun e w'=>e=.returned (.tuple #[.string (bs (hd (tx s))),.string (bs (tl (tx s)))])∧Below w.heap.size w w':=by
 have HC:=Lib.hid (cut1_any s 32 w hs)
 have e1:(cutS [32] (tx s)).1=hd (tx s):=rfl
 have e2:(cutS [32] (tx s)).2.1=tl (tx s):=rfl
 rw [e1,e2] at HC
 clear e1 e2
 generalize bs (hd (tx s))=a at *
 generalize bs (tl (tx s))=b at *
 generalize (cutS [32] (tx s)).2.2=f at *
 go_enter Tryz.func53,Tryz.ntmps53
 go_wp2_with (go_at_call 75;(with_reducible refine HC.out.mono ?_);rintro e w1 ⟨rfl,hb1⟩)
 go_ret2
 exact ⟨rfl,hb1⟩
theorem and63_u32 (x:Int) (v:Nat) (h0:0≤x) (h1:x<4294967296) (hv:x.toNat % 64=v):bits BinOp.and IntKind.u32 x 63=((v:Nat):Int):=by
 obtain ⟨n,rfl⟩:=Int.eq_ofNat_of_zero_le h0
 have h:=u32_and_nat n 63 (by omega) (by omega)
 rw [and63] at h
 rw [←hv]
 exact h
theorem isB_lt {T e:TypeId} {B b:Nat} {l:List Value} {w:World} (h:Lib.IsBuilder T e B b l w):b<w.heap.size:=by
 rcases h with h | h <;> exact h.lt
theorem bytes_snoc (l:Tx) (c:UInt8):Lib.byteCells l++[.int .u8 (c.toNat:Int)]=Lib.byteCells (l++[c]):=by simp [Lib.byteCells]
set_option maxHeartbeats 6400000 in
set_option maxRecDepth 100000 in
theorem writeKey_any (k:Tx) (w:World) (hk:k.length=30) :
 Calls Tryz.prog 52 #[.agg (keyC k).toArray] w fun e w'=>e=.returned (.string (bs (encK k)))∧Below w.heap.size w w':=by
 obtain ⟨N,hN⟩:∃N,w.heap.size=N:=⟨_,rfl⟩
 have HKX:Hid (Whole ((w.alloc (.cells (keyC k).toArray 73)).alloc (.cells #[.pointer none,.slice none 0 0] 172)) N 73 (keyC k).toArray):=Lib.hid (by rw [←hN];exact (Whole.new w _ _).alloc _)
 have HBX:Hid (Lib.IsBuilder 172 5 (N+1) (N+1) (Lib.byteCells []) ((w.alloc (.cells (keyC k).toArray 73)).alloc (.cells #[.pointer none,.slice none 0 0] 172))):=Lib.hid (.inl ⟨by omega,.slice none 0 0,by
  have:=Whole.new2 w (.cells (keyC k).toArray 73) 172 #[.pointer none,.slice none 0 0]
  rw [hN] at this
  exact this,World.ownsRow_nil _ _ _ _,by simp [Value.ownBlock]⟩)
 have HB:Hid (Below N w ((w.alloc (.cells (keyC k).toArray 73)).alloc (.cells #[.pointer none,.slice none 0 0] 172))):=Lib.hid (by rw [←hN];exact two_new _ _ _ _)
 rw [hN]
 go_enter Tryz.func52,Tryz.ntmps52
 go_upto_region 2 with fail
 generalize ((w.alloc (.cells (keyC k).toArray 73)).alloc (.cells #[.pointer none,.slice none 0 0] 172))=W0 at *
 clear hN
 go_wp2
 go_loopw [4] (fun s4 wr=>∃t:Nat,t≤10∧s4=.int .i64 ((3 * t:Nat):Int)∧(Lib.IsBuilder 172 5 (N+1) (N+1) (Lib.byteCells (encK (k.take (3 * t)))) wr∧Whole wr N 73 (keyC k).toArray∧Below N w wr)) (fun s4 _=>30 - (intOf s4).toNat)
 case atStart=>exact ⟨0,by omega,rfl,HBX.out,HKX.out,HB.out⟩
 case round =>
  obtain ⟨t,ht,rfl,hst⟩:=hrel
  have HS:=Lib.hid hst
  clear hst
  by_cases hlt:t<10
  · obtain ⟨a,b,c,hA,hBB,hC,hTK⟩:∃a b c:UInt8,k[3 * t]? = some a∧k[3 * t+1]? = some b∧k[3 * t+2]? = some c∧encK (k.take (3 * (t+1)))=encK (k.take (3 * t))++enc3 a b c:=encK_step hk hlt
    obtain ⟨i,hi⟩:∃i,3 * t=i:=⟨_,rfl⟩
    have HTI:=Lib.hid hi
    rw [hi] at hA hBB hC
    simp only [hi]
    have hi1:(i:Int)<30:=by omega
    have hi0:(0:Int)≤(i:Int):=by omega
    have e1:IntKind.i64.wrap ((i:Int)+1)=((i+1:Nat):Int):=(IntWalk.i64_in _ (by omega)).trans (by omega)
    have e2:IntKind.i64.wrap ((i:Int)+2)=((i+2:Nat):Int):=(IntWalk.i64_in _ (by omega)).trans (by omega)
    have b1:((i+1:Nat):Int)<30:=by omega
    have b2:((i+2:Nat):Int)<30:=by omega
    have b3:(0:Int)≤((i+1:Nat):Int):=by omega
    have b4:(0:Int)≤((i+2:Nat):Int):=by omega
    have d0:wr.cell? ⟨N,i,none⟩=some (.int .u8 (a.toNat:Int)):=(HS.out.2.1.cell _).trans (by simp [keyC,hA])
    have d1:wr.cell? ⟨N,i+1,none⟩=some (.int .u8 (b.toNat:Int)):=(HS.out.2.1.cell _).trans (by simp [keyC,hBB])
    have d2:wr.cell? ⟨N,i+2,none⟩=some (.int .u8 (c.toNat:Int)):=(HS.out.2.1.cell _).trans (by simp [keyC,hC])
    clear hi
    go_upto_region 5 with fail
    go_quiet (fail)
    rw [or3_u32 a b c]
    have HNL:Hid (num3 a b c<16777216):=Lib.hid (num3_lt a b c)
    have HEN:Hid (enc3 a b c=[letter (num3 a b c / 262144),letter (num3 a b c / 4096 % 64),letter (num3 a b c / 64 % 64),letter (num3 a b c % 64)]):=Lib.hid rfl
    have HBS:Hid (Lib.IsBuilder 172 5 (N+1) (N+1) (Lib.byteCells (encK (k.take (3 * t)))) (wr.drewN nq)∧Whole (wr.drewN nq) N 73 (keyC k).toArray∧Below N w (wr.drewN nq)):=Lib.hid ⟨HS.out.1,HS.out.2.1,below_drewN' HS.out.2.2 _⟩
    have HSZ:Hid ((encK (k.take (3 * t))).length=4 * t):=Lib.hid (encK_len t _ (by rw [List.length_take];omega))
    obtain ⟨E,hE⟩:∃E,encK (k.take (3 * t))=E:=⟨_,rfl⟩
    rw [hE] at HBS HSZ hTK
    have HTK:=Lib.hid hTK
    clear hTK hE d0 d1 d2 hA hBB hC
    generalize wr.drewN nq=wx at *
    generalize num3 a b c=n at *
    go_wp2
    go_loopw [30] (fun sp wq=>∃p:Nat,p≤4∧sp=.int .i64 (p:Int)∧(Lib.IsBuilder 172 5 (N+1) (N+1) (Lib.byteCells (E++(enc3 a b c).take p)) wq∧Whole wq N 73 (keyC k).toArray∧Below N w wq)) (fun sp _=>4 - (intOf sp).toNat)
    case atStart=>exact ⟨0,by omega,rfl,by simpa using HBS.out.1,HBS.out.2.1,HBS.out.2.2⟩
    case round =>
     obtain ⟨p,hp,rfl,hst⟩:=hrel
     have HI:=Lib.hid hst
     clear hst
     have HNQ:Hid (N+1≤wr.heap.size):=Lib.hid (Nat.le_of_lt (isB_lt HI.out.1))
     have hn:=HNL.out
     have hp4:p=4∨p=0∨p=1∨p=2∨p=3:=by omega
     rcases hp4 with rfl | rfl | rfl | rfl | rfl
     · have HFE:Hid (encK (k.take (3 * (t+1)))=E++(enc3 a b c).take 4):=Lib.hid (by rw [HTK.out,HEN.out];rfl)
       go_wp2
       go_roundw
       case rel =>
        have hti:=HTI.out
        exact ⟨t+1,by omega,by go_num,by rw [HFE.out];exact HI.out.1,HI.out.2.1,HI.out.2.2⟩
       case measure=>simp [intOf];omega
     · have hv:bits BinOp.and IntKind.u32 ((n:Int) / 262144) 63=((n / 262144:Nat):Int):=and63_u32 _ _ (by omega) (by omega) (by omega)
       obtain ⟨v,hvv⟩:∃v:Nat,n / 262144=v:=⟨_,rfl⟩
       rw [hvv] at hv
       have hv64:v<64:=by omega
       have hvi:(v:Int)<64:=by omega
       have hv0:(0:Int)≤(v:Int):=by omega
       have HTAKE:Hid ((enc3 a b c).take (0+1)=(enc3 a b c).take 0++[letter v]):=Lib.hid (by rw [HEN.out,←hvv];rfl)
       have HLV:Hid (∀h:v<letS.size,letS[v]'h=letter v):=Lib.hid (letS_at v)
       have HWB:Hid (∀c':Int,Calls Tryz.prog 111 #[.pointer (some ⟨N+1,0,none⟩),.int .u8 c'] wr fun e w'=>e=.returned .nilIface∧(Lib.IsBuilder 172 5 (N+1) (N+1) (Lib.byteCells (E++(enc3 a b c).take 0)++[.int .u8 c']) w'∧Below (N+1) wr w')):=Lib.hid fun c'=>writeByte_any (N+1) (N+1) _ c' wr HI.out.1 (by
        rw [Lib.byteCells_length,List.length_append,HSZ.out]
        have:=List.length_take_le 0 (enc3 a b c)
        omega) HNQ.out
       clear hvv
       go_wp2_with (go_at_call 111;(refine (HWB.out _).mono ?_);rintro e w2 ⟨rfl,hb2,hb3⟩)
       go_roundw
       case rel =>
        refine ⟨0+1,by omega,by go_num,?_,HI.out.2.1.below hb3 (Nat.lt_succ_self N),HI.out.2.2.trans (hb3.mono (Nat.le_succ N))⟩
        have e1:=HLV.out (by rw [letS_size];exact hv64)
        rw [HTAKE.out,←List.append_assoc,←bytes_snoc,←e1]
        exact hb2
       case measure=>simp [intOf]
     · have hv:bits BinOp.and IntKind.u32 ((n:Int) / 4096) 63=((n / 4096 % 64:Nat):Int):=and63_u32 _ _ (by omega) (by omega) (by omega)
       obtain ⟨v,hvv⟩:∃v:Nat,n / 4096 % 64=v:=⟨_,rfl⟩
       rw [hvv] at hv
       have hv64:v<64:=by omega
       have hvi:(v:Int)<64:=by omega
       have hv0:(0:Int)≤(v:Int):=by omega
       have HTAKE:Hid ((enc3 a b c).take (1+1)=(enc3 a b c).take 1++[letter v]):=Lib.hid (by rw [HEN.out,←hvv];rfl)
       have HLV:Hid (∀h:v<letS.size,letS[v]'h=letter v):=Lib.hid (letS_at v)
       have HWB:Hid (∀c':Int,Calls Tryz.prog 111 #[.pointer (some ⟨N+1,0,none⟩),.int .u8 c'] wr fun e w'=>e=.returned .nilIface∧(Lib.IsBuilder 172 5 (N+1) (N+1) (Lib.byteCells (E++(enc3 a b c).take 1)++[.int .u8 c']) w'∧Below (N+1) wr w')):=Lib.hid fun c'=>writeByte_any (N+1) (N+1) _ c' wr HI.out.1 (by
        rw [Lib.byteCells_length,List.length_append,HSZ.out]
        have:=List.length_take_le 1 (enc3 a b c)
        omega) HNQ.out
       clear hvv
       go_wp2_with (go_at_call 111;(refine (HWB.out _).mono ?_);rintro e w2 ⟨rfl,hb2,hb3⟩)
       go_roundw
       case rel =>
        refine ⟨1+1,by omega,by go_num,?_,HI.out.2.1.below hb3 (Nat.lt_succ_self N),HI.out.2.2.trans (hb3.mono (Nat.le_succ N))⟩
        have e1:=HLV.out (by rw [letS_size];exact hv64)
        rw [HTAKE.out,←List.append_assoc,←bytes_snoc,←e1]
        exact hb2
       case measure=>simp [intOf]
     · have hv:bits BinOp.and IntKind.u32 ((n:Int) / 64) 63=((n / 64 % 64:Nat):Int):=and63_u32 _ _ (by omega) (by omega) (by omega)
       obtain ⟨v,hvv⟩:∃v:Nat,n / 64 % 64=v:=⟨_,rfl⟩
       rw [hvv] at hv
       have hv64:v<64:=by omega
       have hvi:(v:Int)<64:=by omega
       have hv0:(0:Int)≤(v:Int):=by omega
       have HTAKE:Hid ((enc3 a b c).take (2+1)=(enc3 a b c).take 2++[letter v]):=Lib.hid (by rw [HEN.out,←hvv];rfl)
       have HLV:Hid (∀h:v<letS.size,letS[v]'h=letter v):=Lib.hid (letS_at v)
       have HWB:Hid (∀c':Int,Calls Tryz.prog 111 #[.pointer (some ⟨N+1,0,none⟩),.int .u8 c'] wr fun e w'=>e=.returned .nilIface∧(Lib.IsBuilder 172 5 (N+1) (N+1) (Lib.byteCells (E++(enc3 a b c).take 2)++[.int .u8 c']) w'∧Below (N+1) wr w')):=Lib.hid fun c'=>writeByte_any (N+1) (N+1) _ c' wr HI.out.1 (by
        rw [Lib.byteCells_length,List.length_append,HSZ.out]
        have:=List.length_take_le 2 (enc3 a b c)
        omega) HNQ.out
       clear hvv
       go_wp2_with (go_at_call 111;(refine (HWB.out _).mono ?_);rintro e w2 ⟨rfl,hb2,hb3⟩)
       go_roundw
       case rel =>
        refine ⟨2+1,by omega,by go_num,?_,HI.out.2.1.below hb3 (Nat.lt_succ_self N),HI.out.2.2.trans (hb3.mono (Nat.le_succ N))⟩
        have e1:=HLV.out (by rw [letS_size];exact hv64)
        rw [HTAKE.out,←List.append_assoc,←bytes_snoc,←e1]
        exact hb2
       case measure=>simp [intOf]
     · have hv:bits BinOp.and IntKind.u32 (n:Int) 63=((n % 64:Nat):Int):=and63_u32 _ _ (by omega) (by omega) (by omega)
       obtain ⟨v,hvv⟩:∃v:Nat,n % 64=v:=⟨_,rfl⟩
       rw [hvv] at hv
       have hv64:v<64:=by omega
       have hvi:(v:Int)<64:=by omega
       have hv0:(0:Int)≤(v:Int):=by omega
       have HTAKE:Hid ((enc3 a b c).take (3+1)=(enc3 a b c).take 3++[letter v]):=Lib.hid (by rw [HEN.out,←hvv];rfl)
       have HLV:Hid (∀h:v<letS.size,letS[v]'h=letter v):=Lib.hid (letS_at v)
       have HWB:Hid (∀c':Int,Calls Tryz.prog 111 #[.pointer (some ⟨N+1,0,none⟩),.int .u8 c'] wr fun e w'=>e=.returned .nilIface∧(Lib.IsBuilder 172 5 (N+1) (N+1) (Lib.byteCells (E++(enc3 a b c).take 3)++[.int .u8 c']) w'∧Below (N+1) wr w')):=Lib.hid fun c'=>writeByte_any (N+1) (N+1) _ c' wr HI.out.1 (by
        rw [Lib.byteCells_length,List.length_append,HSZ.out]
        have:=List.length_take_le 3 (enc3 a b c)
        omega) HNQ.out
       clear hvv
       go_wp2_with (go_at_call 111;(refine (HWB.out _).mono ?_);rintro e w2 ⟨rfl,hb2,hb3⟩)
       go_roundw
       case rel =>
        refine ⟨3+1,by omega,by go_num,?_,HI.out.2.1.below hb3 (Nat.lt_succ_self N),HI.out.2.2.trans (hb3.mono (Nat.le_succ N))⟩
        have e1:=HLV.out (by rw [letS_size];exact hv64)
        rw [HTAKE.out,←List.append_assoc,←bytes_snoc,←e1]
        exact hb2
       case measure=>simp [intOf]
  · have e:t=10:=by omega
    subst e
    have HFE:Hid (encK (k.take (3 * 10))=encK k):=Lib.hid (by rw [List.take_of_length_le (by omega)])
    have HST:Hid (Calls Tryz.prog 112 #[.pointer (some ⟨N+1,0,none⟩)] wr fun e w'=>e=.returned (.string (bs (encK k)))∧Below (N+1) wr w'):=Lib.hid (by
     have:=Tryz.Builder_String_any (N+1) (N+1) (encK (k.take (3 * 10))) wr HS.out.1 (Nat.le_of_lt (isB_lt HS.out.1))
     rw [HFE.out] at this
     exact this)
    go_wp2_with (go_at_call 112;(with_reducible refine HST.out.mono ?_);rintro e w2 ⟨rfl,hb2⟩)
    go_ret
    exact ⟨rfl,HS.out.2.2.trans (hb2.mono (Nat.le_succ N))⟩
abbrev zKey:Array Value:=#[.int .u8 0,.int .u8 0,.int .u8 0,.int .u8 0,.int .u8 0,.int .u8 0,.int .u8 0,.int .u8 0,.int .u8 0,.int .u8 0,.int .u8 0,.int .u8 0,.int .u8 0,.int .u8 0,.int .u8 0,.int .u8 0,.int .u8 0,.int .u8 0,.int .u8 0,.int .u8 0,.int .u8 0,.int .u8 0,.int .u8 0,.int .u8 0,.int .u8 0,.int .u8 0,.int .u8 0,.int .u8 0,.int .u8 0,.int .u8 0]
def pre4 (l:Tx):Nat:=l.foldl (fun n c=>n * 64+sixP c) 0
theorem pre4_snoc (l:Tx) (c:UInt8):pre4 (l++[c])=pre4 l * 64+sixP c:=by unfold pre4;rw [List.foldl_append];rfl
theorem pre_lt:∀(l:Tx) (acc B:Nat),acc<B→l.foldl (fun n c=>n * 64+sixP c) acc<B * 64 ^ l.length
 | [],acc,B,h=>by simpa using h
 | c :: r,acc,B,h=>by
   have hc:=sixP_lt c
   have:=pre_lt r (acc * 64+sixP c) (B * 64) (by omega)
   rw [List.length_cons,Nat.pow_succ,Nat.mul_comm (64 ^ r.length) 64,←Nat.mul_assoc]
   exact this
theorem pre4_lt (l:Tx):pre4 l<64 ^ l.length:=by
 have:=pre_lt l 0 1 (by decide)
 rw [Nat.one_mul] at this
 exact this
theorem key_set (A:Tx) (k:Nat) (x y z:UInt8) :
 (((keyC (A++List.replicate (k+3) 0)).toArray.setIfInBounds A.length (.int .u8 (x.toNat:Int))).setIfInBounds (A.length+1) (.int .u8 (y.toNat:Int))).setIfInBounds (A.length+2) (.int .u8 (z.toNat:Int))=(keyC (A++[x,y,z]++List.replicate k 0)).toArray:=by
 have e:keyC (A++List.replicate (k+3) 0)=keyC A++(.int .u8 0 :: .int .u8 0 :: .int .u8 0 :: keyC (List.replicate k 0)):=by
  unfold keyC
  rw [List.map_append,List.replicate_succ,List.replicate_succ,List.replicate_succ]
  rfl
 have hl:(keyC A).length=A.length:=by simp [keyC]
 rw [e,List.setIfInBounds_toArray,List.setIfInBounds_toArray,List.setIfInBounds_toArray]
 congr 1
 rw [←hl,List.set_append_right _ _ (Nat.le_refl _),List.set_append_right _ _ (by omega),List.set_append_right _ _ (by omega)]
 rw [Nat.sub_self,show (keyC A).length+1 - (keyC A).length=1 by omega,show (keyC A).length+2 - (keyC A).length=2 by omega]
 unfold keyC
 simp
theorem Env.low {w w':World} {B:Nat} (h:Env w) (hb:Below B w w') (hB:7≤B):Env w':=by
 refine ⟨?_,fun j hj=>(hb.cell (p:=⟨0,j,Option.none⟩) (Nat.lt_of_lt_of_le (show 0<7 by decide) hB)).trans (h.dirs j hj),fun j h1 hj=>(hb.cell (p:=⟨1,j,Option.none⟩) (Nat.lt_of_lt_of_le (show 1<7 by decide) hB)).trans (h.kinds j h1 hj),(hb.cell (p:=⟨1,0,Option.none⟩) (Nat.lt_of_lt_of_le (show 1<7 by decide) hB)).trans h.none⟩
 have ht:=h.tab
 unfold Lib.TabIs World.var? at ht ⊢
 rw [gPow] at ht ⊢
 simp only [Option.bind_some] at ht ⊢
 rw [hb.block 2 (Nat.lt_of_lt_of_le (by decide) hB)]
 exact ht
def AtO (w:World) (base:Nat) (v:Value) (L:List AttrS):Prop:=Own w base 65 2 v (L.map acell)
structure Grew (w:World) (v:Value) (w':World) (v':Value):Prop where
 only:Only (fun k=>v.ownBlock=some k) w w'
 own:∀k,v'.ownBlock=some k→v.ownBlock=some k∨w.heap.size≤k
theorem Grew.refl (w:World) (v:Value):Grew w v w v:=⟨Only.refl _ _,fun k h=>.inl h⟩
theorem Grew.trans {w w1 w2:World} {v v1 v2:Value} (h:Grew w v w1 v1) (k:Grew w1 v1 w2 v2):Grew w v w2 v2 :=
 ⟨h.only.next k.only h.own,fun j hj=>by
  rcases k.own j hj with h1 | h1
  · exact h.own j h1
  · exact .inr (Nat.le_trans h.only.size h1)⟩
theorem Grew.under {w w1 w2:World} {v v1:Value} (h:Grew w v w1 v1) (hb:Below w1.heap.size w1 w2):Grew w v w2 v1:=⟨h.only.under hb,h.own⟩
theorem Grew.below {w w1:World} {base:Nat} {v v1:Value} (h:Grew w v w1 v1) (hv:∀k,v.ownBlock=some k→base≤k) (hB:base≤w.heap.size):Below base w w1:=h.only.below hv hB
theorem Grew.whole {w w1:World} {v v1:Value} {g:Nat} {t:TypeId} {cs:Array Value} (h:Grew w v w1 v1) (hg:Whole w g t cs) (hne:v.ownBlock≠some g):Whole w1 g t cs:=hg.only h.only hne
theorem AtO.under {w w':World} {base:Nat} {v:Value} {L:List AttrS} (h:AtO w base v L) (hb:Below w.heap.size w w'):AtO w' base v L:=Own.under h hb
theorem AtO.base {w:World} {base:Nat} {v:Value} {L:List AttrS} (h:AtO w base v L):∀k,v.ownBlock=some k→base≤k:=fun k hk=>(Own.lt h hk).1
section
variable {ops:Array Oper} {rest:List Oper} {o:Oper} {a:Act} {Q:Exit→Act→World→Prop} {K:Act→World→Prop} {w:World} {base:Nat} {v:Value} {L:List AttrS} {n val:ByteArray} {c:Nat}
theorem addA (hown:AtO w base v L) (hl:L.length≤1000000) (hb:base≤w.heap.size) {v':Value} {w':World} (h1:Own w' base 65 2 v' (L.map acell++[[.string n,.string val]])) (h2:(w.alloc (.cells #[.string n,.string val] 65)).grownBy w' v.ownBlock) (h3:v'.ownBlock=v.ownBlock∨v'.ownBlock=some (w.alloc (.cells #[.string n,.string val] 65)).heap.size) :
 AtO w' base v' (L++[⟨n,val⟩])∧Grew w v w' v':=by
 refine ⟨?_,((Only.refl _ _).alloc _).grown h2 (fun k hk=>.inl hk),fun k hk=> ?_⟩
 · show Own _ _ _ _ _ _
   rw [List.map_append]
   exact h1
 · rcases h3 with h3 | h3
   · exact .inl (by rw [←h3];exact hk)
   · rw [h3] at hk
     injection hk with hk
     right
     rw [←hk,World.size_alloc]
     omega
theorem wpList_addA (hgd:o.guard=none) (s y:Operand) (ho:o.op=.call {callee:=.builtin .append,args:=#[s,y],argTypes:=#[32,32]}) (hs:a.eval s=v) (hy:a.eval y=.slice (some ⟨w.heap.size,0,none⟩) 1 c) (hown:AtO w base v L) (hl:L.length≤1000000) (hb:base≤w.heap.size)
 (h:∀v' w',AtO w' base v' (L++[⟨n,val⟩])→Grew w v w' v'→wpList Tryz.prog ops Q rest (a.put o.dst v') w'):wpList Tryz.prog ops Q (o :: rest) a (w.alloc (.cells #[.string n,.string val] 65)) :=
 wpList_appendE (r:=[.string n,.string val]) hgd s y ho Tryz.underlying32 Tryz.infoSAttr rfl (Nat.zero_lt_succ _) hs (Own.alloc hown _) hy (Whole.new w 65 _) rfl (fun u hu=>by simp at hu;rcases hu with rfl | rfl <;> rfl) (by rw [List.length_map];omega) (by rw [List.length_map];omega) (by rw [World.size_alloc];omega)
  fun v' w' h1 h2 h3=>by
   obtain ⟨g1,g2⟩:=addA hown hl hb h1 h2 h3
   exact h v' w' g1 g2
theorem wp_addA (s y:Operand) (ho:o.op=.call {callee:=.builtin .append,args:=#[s,y],argTypes:=#[32,32]}) (hs:a.eval s=v) (hy:a.eval y=.slice (some ⟨w.heap.size,0,none⟩) 1 c) (hown:AtO w base v L) (hl:L.length≤1000000) (hb:base≤w.heap.size)
 (h:∀v' w',AtO w' base v' (L++[⟨n,val⟩])→Grew w v w' v'→K (a.put o.dst v') w'):o.wp Tryz.prog a (w.alloc (.cells #[.string n,.string val] 65)) K Q :=
 wp_appendE (r:=[.string n,.string val]) s y ho Tryz.underlying32 Tryz.infoSAttr rfl (Nat.zero_lt_succ _) hs (Own.alloc hown _) hy (Whole.new w 65 _) rfl (fun u hu=>by simp at hu;rcases hu with rfl | rfl <;> rfl) (by rw [List.length_map];omega) (by rw [List.length_map];omega) (by rw [World.size_alloc];omega)
  fun v' w' h1 h2 h3=>by
   obtain ⟨g1,g2⟩:=addA hown hl hb h1 h2 h3
   exact h v' w' g1 g2
end
def AddO (base:Nat) (w:World) (v:Value) (L:List AttrS) (e:Ending) (w':World):Prop:=∃v',e=.returned v'∧AtO w' base v' L∧Grew w v w' v'
theorem plain_len {l:Tx} (h:plainP l=true):l.length≤100:=by
 unfold plainP at h
 simp only [Bool.and_eq_true,decide_eq_true_eq] at h
 exact h.1.1.2
set_option maxHeartbeats 6400000 in
set_option maxRecDepth 100000 in
theorem addCodec_any (base:Nat) (v:Value) (L:List AttrS) (x:CodecS) (Af:Option Addr) (lf kf:Nat) (w:World) (hE:Env w) (hown:AtO w base v L) (hl:L.length≤900000) (hbase:base≤w.heap.size) (h7:7≤base) (h:TextsV w base (.slice Af lf kf) x.feedback) (hg:goodC x=true) :
 Calls Tryz.prog 49 #[v,.agg #[.int .i64 x.type,.string x.name,.int .i64 x.clock,.int .i64 x.chans,.string x.format,.slice Af lf kf]] w (AddO base w v (L++attrsC x)):=by
 obtain ⟨ty,nm,ck,ch,fm,fb⟩:=x
 have h:TextsV w base (.slice Af lf kf) fb:=h
 obtain ⟨⟨ht0,ht1⟩,hn,⟨hk0,hk1⟩,hch,hf,hfl,hfe⟩:=goodC_parts hg
 have ht0:0≤ty:=ht0
 have ht1:ty≤127:=ht1
 have hk0:1≤ck:=hk0
 have hk1:ck≤1000000:=hk1
 have hch:ch=1∨ch=2:=hch
 have hfl:fb.length≤8:=hfl
 have hn:wordP 1 32 (tx nm)=true:=hn
 have hf:(tx fm).isEmpty=true∨plainP (tx fm)=true:=hf
 have hfe:∀f∈fb,plainP (tx f)=true:=hfe
 have hnl:=(wordP_len hn).2
 rw [tx_length] at hnl
 have hfml:fm.size≤100:=by
  rcases hf with hf | hf
  · rw [←tx_length]
    have:tx fm=[]:=List.isEmpty_iff.1 hf
    rw [this]
    simp
  · rw [←tx_length]
    exact plain_len hf
 have hfbl:∀f∈fb,f.size≤100:=fun f hf=>by
  rw [←tx_length]
  exact plain_len (hfe f hf)
 have hlf:lf=fb.length:=by
  obtain ⟨_,_,e,-⟩:=Rows.form h
  injection e
 have hb0:Below w.heap.size w (w.alloc (.cells #[.int .i64 ty,.string nm,.int .i64 ck,.int .i64 ch,.string fm,.slice Af lf kf] 31)):=(Below.refl _ w).alloc (Nat.le_refl _) _
 have hz:=Whole.new w 31 #[.int .i64 ty,.string nm,.int .i64 ck,.int .i64 ch,.string fm,.slice Af lf kf]
 have HV:=Lib.hid (And.intro (h.below (hb0.mono hbase)) (And.intro hlf.symm hfbl))
 have HVW:Hid (TextsV w base (.slice Af lf kf) fb):=Lib.hid h
 have HOWN:Hid (AtO (w.alloc (.cells #[.int .i64 ty,.string nm,.int .i64 ck,.int .i64 ch,.string fm,.slice Af lf kf] 31)) base v L):=Lib.hid (AtO.under hown hb0)
 have HEN:=Lib.hid (hE.under hb0)
 have HBX:=Lib.hid hz
 have HGR:Hid (Grew w v (w.alloc (.cells #[.int .i64 ty,.string nm,.int .i64 ck,.int .i64 ch,.string fm,.slice Af lf kf] 31)) v):=Lib.hid ((Grew.refl w v).under hb0)
 have HFIN:Hid (attrsC ⟨ty,nm,ck,ch,fm,fb⟩=⟨bs nCodec,bs (decI ty++32 :: (tx nm++47 :: (decI ck++(if ch=2 then [47,50] else []))))⟩ :: ((if (tx fm).isEmpty then [] else [⟨bs nFormat,bs (headT ty (tx fm))⟩])++fb.map fun f=>⟨bs nFeedback,bs (headT ty (tx f))⟩)):=Lib.hid rfl
 have hmt:fm.toList.isEmpty=(tx fm).isEmpty:=by rw [toList_tx]
 have hlf8:lf≤8:=by omega
 obtain ⟨T,hT⟩:∃T,L++attrsC ⟨ty,nm,ck,ch,fm,fb⟩=T:=⟨_,rfl⟩
 obtain ⟨q,hq⟩:∃q,(tx fm).isEmpty=q:=⟨_,rfl⟩
 rw [HFIN.out,hq] at hT
 have HF:=Lib.hid hT.symm
 have hT0:L++attrsC ⟨ty,nm,ck,ch,fm,fb⟩=T:=by rw [HFIN.out,hq];exact hT
 rw [hT0]
 rw [hq] at hmt
 clear hq hT0 hT
 obtain ⟨Av,nv,cv,hv⟩:∃Av nv cv,v=.slice Av nv cv:=by
  obtain ⟨A,c,e,-⟩:=Own.form hown
  exact ⟨A,_,c,e⟩
 clear HFIN hE h hg hb0 hz hown hn hf hfe hfl hlf hfbl
 obtain ⟨N,hN⟩:∃N,w.heap.size=N:=⟨_,rfl⟩
 have HNB0:Hid (base≤w.heap.size):=Lib.hid hbase
 have HNB:Hid (base≤N):=Lib.hid (by omega)
 rw [hN] at HBX
 go_enter Tryz.func49,Tryz.ntmps49
 go_upto_region 1 with fail
 generalize w.alloc (.cells #[.int .i64 ty,.string nm,.int .i64 ck,.int .i64 ch,.string fm,.slice Af lf kf] 31)=W0 at *
 have HN:Hid (N≤W0.heap.size):=Lib.hid (Nat.le_of_lt HBX.out.lt)
 try rw [hN] at HNB
 clear hN
 have k0:W0.cell? ⟨N,0,none⟩=some (.int .i64 ty):=HBX.out.cell 0
 have HIT:Hid (∀n:Int,0≤n→n≤1000000→∀W,Below W0.heap.size W0 W→Calls Tryz.prog 48 #[.int .i64 n] W fun e w'=>e=.returned (.string (bs (decI n)))∧Below W.heap.size W w'):=Lib.hid fun n h0 h1 W hW=>itoa_any n W (HEN.out.under hW) h0 (by omega)
 have HIT1:=Lib.hid (HIT.out ty ht0 (by omega) W0 (Below.refl _ _))
 have htl:=decI_len (n:=ty) (by omega)
 have hckl:=decI_len (n:=ck) (by omega)
 obtain ⟨dt,hdt⟩:∃a,bs (decI ty)=a:=⟨_,rfl⟩
 obtain ⟨dk,hdk⟩:∃a,bs (decI ck)=a:=⟨_,rfl⟩
 rw [hdt] at htl HIT1
 rw [hdk] at hckl
 have HDT:Hid (tx dt=decI ty):=Lib.hid (by rw [←hdt,tx_bs])
 have HDK:Hid (tx dk=decI ck):=Lib.hid (by rw [←hdk,tx_bs])
 have q1:¬9223372036854775807<dt.size+1:=by omega
 go_upto_region 2 with (go_at_call 48;(with_reducible refine HIT1.out.mono ?_);rintro e w1 ⟨rfl,hb1⟩)
 have H1:Hid (Below W0.heap.size W0 w1):=Lib.hid hb1
 clear hb1 k0 HIT1
 have HKD:Hid (tx (dt++⟨#[32]⟩)=decI ty++[32]):=Lib.hid (by rw [tx_append,HDT.out];rfl)
 have hkd:(dt++⟨#[32]⟩:ByteArray).size≤20:=by rw [←tx_length,tx_append,List.length_append,tx_length];show dt.size+1≤20;omega
 obtain ⟨kd,hkd2⟩:∃a:ByteArray,dt++⟨#[32]⟩=a:=⟨_,rfl⟩
 rw [hkd2] at HKD hkd
 simp only [hkd2]
 clear hkd2 q1 htl hdt
 have HF1:Hid (∀W,Below W0.heap.size W0 W→W.cell? ⟨N,1,none⟩=some (.string nm)):=Lib.hid fun W hW=>(HBX.out.under hW).cell 1
 have HF2:Hid (∀W,Below W0.heap.size W0 W→W.cell? ⟨N,2,none⟩=some (.int .i64 ck)):=Lib.hid fun W hW=>(HBX.out.under hW).cell 2
 have HIT2:Hid (∀W,Below W0.heap.size W0 W→Calls Tryz.prog 48 #[.int .i64 ck] W fun e w'=>e=.returned (.string dk)∧Below W.heap.size W w'):=Lib.hid (by rw [←hdk];exact HIT.out ck (by omega) hk1)
 have HKB:Hid (∀W W',Below W0.heap.size W0 W→Below W.heap.size W W'→Below W0.heap.size W0 W'):=Lib.hid fun W W' h1 h2=>below_chain (Nat.le_refl _) h1 h2
 have HR0:Hid (Below W0.heap.size W0 w1.drew):=Lib.hid H1.out.drew
 have q2:¬9223372036854775807<kd.size+nm.size:=by omega
 have q3:¬9223372036854775807<kd.size+nm.size+1:=by omega
 have q4:¬9223372036854775807<kd.size+nm.size+1+dk.size:=by omega
 clear hdk
 refine wp_region_held_drew (S:=fun W=>Below W0.heap.size W0 W) (by kernel_rfl) HR0.out (fun hHeld=> ?_)
 refine wpAnyH_take (i:=0) (v:=_) rfl (by as_aux_lemma=>kernel_rfl) (by as_aux_lemma=>kernel_rfl) (by as_aux_lemma=>kernel_rfl) (fun _ _ _ h=>h) (Or.inl ⟨by rfl,fun w h=>by have e0:=HF1.out w h;have e1:=HF2.out w h;clear h;go_simp;(try with_reducible rfl)⟩) (by assumption) ?_
 simp only [Act.put,List.getElem_toArray,List.getElem_cons_succ,List.getElem_cons_zero,List.setIfInBounds_toArray,List.set_cons_succ,List.set_cons_zero]
 refine wpAnyH_take (i:=1) (v:=_) rfl (by as_aux_lemma=>kernel_rfl) (by as_aux_lemma=>kernel_rfl) (by as_aux_lemma=>kernel_rfl) (fun _ _ _ h=>h) (Or.inl ⟨by rfl,fun w h=>by have e0:=HF1.out w h;have e1:=HF2.out w h;clear h;go_simp;(try with_reducible rfl)⟩) (by assumption) ?_
 simp only [Act.put,List.getElem_toArray,List.getElem_cons_succ,List.getElem_cons_zero,List.setIfInBounds_toArray,List.set_cons_succ,List.set_cons_zero]
 refine wpAnyH_take (i:=2) (v:=_) rfl (by as_aux_lemma=>kernel_rfl) (by as_aux_lemma=>kernel_rfl) (by as_aux_lemma=>kernel_rfl) (fun _ _ _ h=>h) (Or.inl ⟨by rfl,fun w h=>by have e0:=HF1.out w h;have e1:=HF2.out w h;clear h;go_simp;(try with_reducible rfl)⟩) (by assumption) ?_
 simp only [Act.put,List.getElem_toArray,List.getElem_cons_succ,List.getElem_cons_zero,List.setIfInBounds_toArray,List.set_cons_succ,List.set_cons_zero]
 refine wpAnyH_take (i:=3) (v:=_) rfl (by as_aux_lemma=>kernel_rfl) (by as_aux_lemma=>kernel_rfl) (by as_aux_lemma=>kernel_rfl) (fun _ _ _ h=>h) (Or.inl ⟨by rfl,fun w h=>by have e0:=HF1.out w h;have e1:=HF2.out w h;clear h;go_simp;(try with_reducible rfl)⟩) (by assumption) ?_
 simp only [Act.put,List.getElem_toArray,List.getElem_cons_succ,List.getElem_cons_zero,List.setIfInBounds_toArray,List.set_cons_succ,List.set_cons_zero]
 refine wpAnyH_take (i:=4) (v:=_) rfl (by as_aux_lemma=>kernel_rfl) (by as_aux_lemma=>kernel_rfl) (by as_aux_lemma=>kernel_rfl) (fun _ _ _ h=>h) (Or.inl ⟨by rfl,fun w h=>by have e0:=HF1.out w h;have e1:=HF2.out w h;clear h;go_simp;(try with_reducible rfl)⟩) (by assumption) ?_
 simp only [Act.put,List.getElem_toArray,List.getElem_cons_succ,List.getElem_cons_zero,List.setIfInBounds_toArray,List.set_cons_succ,List.set_cons_zero]
 refine wpAnyH_take (i:=5) (v:=_) rfl (by as_aux_lemma=>kernel_rfl) (by as_aux_lemma=>kernel_rfl) (by as_aux_lemma=>kernel_rfl) (fun _ _ _ h=>h) (Or.inl ⟨by rfl,fun w h=>by have e0:=HF1.out w h;have e1:=HF2.out w h;clear h;go_simp;(try with_reducible rfl)⟩) (by assumption) ?_
 simp only [Act.put,List.getElem_toArray,List.getElem_cons_succ,List.getElem_cons_zero,List.setIfInBounds_toArray,List.set_cons_succ,List.set_cons_zero]
 refine wpAnyH_take (i:=6) (v:=_) rfl (by as_aux_lemma=>kernel_rfl) (by as_aux_lemma=>kernel_rfl) (by as_aux_lemma=>kernel_rfl) (fun _ _ _ h=>h) (Or.inl ⟨by rfl,fun w h=>by have e0:=HF1.out w h;have e1:=HF2.out w h;clear h;go_simp;(try with_reducible rfl)⟩) (by assumption) ?_
 simp only [Act.put,List.getElem_toArray,List.getElem_cons_succ,List.getElem_cons_zero,List.setIfInBounds_toArray,List.set_cons_succ,List.set_cons_zero]
 refine wpAnyH_ready (rs:=[7]) (by as_aux_lemma=>kernel_rfl) (by simp) ?_
 refine AllReadyH.cons (i:=7) rfl (fun K hK=> ?_) AllReadyH.nil
 go_simp
 refine (HIT2.out _ hHeld).mono ?_
 rintro e w4 ⟨rfl,hb4⟩
 refine hK.out _ _ (HKB.out _ _ hHeld hb4) (fun hHeld4=> ?_)
 clear hK K hHeld
 have hHeld:=hHeld4
 clear hHeld4
 refine wpAnyH_take (i:=8) (v:=_) rfl (by as_aux_lemma=>kernel_rfl) (by as_aux_lemma=>kernel_rfl) (by as_aux_lemma=>kernel_rfl) (fun _ _ _ h=>h) (Or.inl ⟨by rfl,fun w h=>by have e0:=HF1.out w h;have e1:=HF2.out w h;clear h;go_simp;(try with_reducible rfl)⟩) (by assumption) ?_
 simp only [Act.put,List.getElem_toArray,List.getElem_cons_succ,List.getElem_cons_zero,List.setIfInBounds_toArray,List.set_cons_succ,List.set_cons_zero]
 refine wpAnyH_take (i:=9) (v:=_) rfl (by as_aux_lemma=>kernel_rfl) (by as_aux_lemma=>kernel_rfl) (by as_aux_lemma=>kernel_rfl) (fun _ _ _ h=>h) (Or.inl ⟨by rfl,fun w h=>by have e0:=HF1.out w h;have e1:=HF2.out w h;clear h;go_simp;(try with_reducible rfl)⟩) (by assumption) ?_
 simp only [Act.put,List.getElem_toArray,List.getElem_cons_succ,List.getElem_cons_zero,List.setIfInBounds_toArray,List.set_cons_succ,List.set_cons_zero]
 refine wpAnyH_done (by as_aux_lemma=>kernel_rfl) ?_ _
 have H2:=Lib.hid hHeld
 clear hHeld HF1 HF2 HIT2 HIT HKB HR0 q2 q3 q4
 have HS1:Hid (tx (kd++nm++⟨#[47]⟩++dk)=decI ty++32 :: (tx nm++47 :: decI ck)):=Lib.hid (by rw [tx_append,tx_append,tx_append,HKD.out,HDK.out];simp [tx])
 have hs1:(kd++nm++⟨#[47]⟩++dk:ByteArray).size≤100:=by rw [←tx_length,tx_append,tx_append,tx_append,List.length_append,List.length_append,List.length_append,tx_length,tx_length,tx_length,tx_length];show kd.size+nm.size+1+dk.size≤100;omega
 generalize (kd++nm++⟨#[47]⟩++dk:ByteArray)=s1 at *
 generalize w4=w2 at *
 have k3:w2.cell? ⟨N,3,none⟩=some (.int .i64 ch):=(HBX.out.under H2.out).cell 3
 go_upto_if 24 with fail
 go_cut [6] from 6 to 26 (fun s6 wc=>∃s:ByteArray,s6=.string s∧s=bs (decI ty++32 :: (tx nm++47 :: (decI ck++(if ch=2 then [47,50] else []))))∧s.size≤110∧w2=wc)
 case first =>
  rcases hch with rfl | rfl
  · go_wp2
    go_meet
    exact ⟨s1,rfl,tx_inj (by rw [HS1.out,tx_bs];simp),by omega,rfl⟩
  · have q5:¬9223372036854775807<s1.size+2:=by omega
    go_wp2
    go_meet
    exact ⟨_,rfl,tx_inj (by rw [tx_append,HS1.out,tx_bs];simp [tx]),by rw [←tx_length,tx_append,List.length_append,tx_length];show s1.size+2≤110;omega,rfl⟩
 case rest =>
  obtain ⟨s2,rfl,hs2,hs2l,rfl⟩:=hcut
  have HGW:Hid (Grew w v w2 v):=Lib.hid (HGR.out.under H2.out)
  have HGX:Hid (∀w9 v9,Grew w2 v w9 v9→Whole w9 N 31 #[.int .i64 ty,.string nm,.int .i64 ck,.int .i64 ch,.string fm,.slice Af lf kf]):=Lib.hid fun w9 v9 hg=>hg.whole (HBX.out.under H2.out) (Own.apart HOWN.out HBX.out (by decide))
  have HOW:Hid (AtO w2 base v L):=Lib.hid (HOWN.out.under H2.out)
  have HVB:Hid (∀k,v.ownBlock=some k→base≤k):=Lib.hid HOWN.out.base
  have HBN:Hid (base≤w2.heap.size):=Lib.hid (by have:=H2.out.size;have:=HN.out;have:=HNB.out;omega)
  have HL0:Hid (L.length≤1000000):=Lib.hid (by omega)
  have HS2:Hid (s2=bs (decI ty++32 :: (tx nm++47 :: (decI ck++(if ch=2 then [47,50] else []))))):=Lib.hid hs2
  clear k3 hs2 hch
  subst hv
  go_upto_region 6 with (at_builtin;refine wpList_addA rfl (.tmp 27) (.tmp 30) rfl rfl rfl HOW.out HL0.out HBN.out ?_;intro v5 w5 ho5 hg5;have HA5:Hid (AtO w5 base v5 (L++[(⟨bs nCodec,s2⟩:AttrS)])∧Grew w2 (.slice Av nv cv) w5 v5):=Lib.hid ⟨ho5,hg5⟩;clear ho5 hg5)
  have HBX5:Hid (Whole w5 N 31 #[.int .i64 ty,.string nm,.int .i64 ck,.int .i64 ch,.string fm,.slice Af lf kf]):=Lib.hid (HGX.out _ _ HA5.out.2)
  have k4:w5.cell? ⟨N,4,none⟩=some (.string fm):=HBX5.out.cell 4
  obtain ⟨Ax,nx,cx,hvx⟩:∃A n c,v5=.slice A n c:=by
   obtain ⟨A,c,e,-⟩:=Own.form HA5.out.1
   exact ⟨A,_,c,e⟩
  subst hvx
  cases q with
  | true =>
    have HEND:Hid (L++(⟨bs nCodec,bs (decI ty++32 :: (tx nm++47 :: (decI ck++(if ch=2 then [47,50] else []))))⟩ :: ((if true=true then [] else [⟨bs nFormat,bs (headT ty (tx fm))⟩])++fb.map fun f=>(⟨bs nFeedback,bs (headT ty (tx f))⟩:AttrS)))=(L++[(⟨bs nCodec,s2⟩:AttrS)])++fb.map fun f=>⟨bs nFeedback,bs (headT ty (tx f))⟩):=Lib.hid (by rw [HS2.out];simp)
    have HLN:Hid ((L++[(⟨bs nCodec,s2⟩:AttrS)]).length≤900002):=Lib.hid (by rw [List.length_append];simp;omega)
    have k5:w5.cell? ⟨N,5,none⟩=some (.slice Af lf kf):=HBX5.out.cell 5
    go_wp2
    go_loopw [46,0] (fun s46 s0 wr=>∃k:Nat,k≤lf∧s46=.int .i64 k∧(AtO wr base s0 ((L++[(⟨bs nCodec,s2⟩:AttrS)])++(fb.take k).map fun f=>⟨bs nFeedback,bs (headT ty (tx f))⟩)∧Grew w2 (.slice Av nv cv) wr s0)) (fun s46 _ _=>lf - (intOf s46).toNat)
    case atStart=>exact ⟨0,by omega,rfl,by simpa using HA5.out.1,HA5.out.2⟩
    case round =>
     obtain ⟨k,hk,rfl,hst⟩:=hrel
     have HS:=Lib.hid hst
     clear hst
     have HBL:Hid (Below base w wr):=Lib.hid ((HGW.out.trans HS.out.2).below HVB.out HNB0.out)
     by_cases hlt:k<lf
     · have hlt':k<fb.length:=by rw [HV.out.2.1];exact hlt
       obtain ⟨ad,c',e1,had,d0⟩:=(HVW.out.below HBL.out).at_ hlt'
       injection e1 with e1 e1n e1c
       clear e1n e1c
       subst e1
       have hfs:=HV.out.2.2 _ (getD_mem hlt')
       have HTK:Hid (((fb.take (k+1)).map fun f=>(⟨bs nFeedback,bs (headT ty (tx f))⟩:AttrS))=((fb.take k).map fun f=>⟨bs nFeedback,bs (headT ty (tx f))⟩)++[⟨bs nFeedback,bs (headT ty (tx (fb.getD k default)))⟩]):=Lib.hid (by rw [List.take_add_one,getD_of hlt'];simp)
       obtain ⟨f,hf⟩:∃f,fb.getD k default=f:=⟨_,rfl⟩
       rw [hf] at d0 hfs HTK
       have hk0':(0:Int)≤(k:Int):=by omega
       have hk1':(k:Int)<(lf:Int):=by omega
       have q9:¬9223372036854775807<kd.size+f.size:=by omega
       have HTX:Hid (kd++f=bs (headT ty (tx f))):=Lib.hid (tx_inj (by rw [tx_append,HKD.out,tx_bs];simp [headT]))
       have HLL:Hid (((L++[(⟨bs nCodec,s2⟩:AttrS)])++(fb.take k).map fun f=>(⟨bs nFeedback,bs (headT ty (tx f))⟩:AttrS)).length≤1000000):=Lib.hid (by
        rw [List.length_append,List.length_map,List.length_take]
        have:=HLN.out
        omega)
       have HNW:Hid (base≤wr.heap.size):=Lib.hid (by have:=HBL.out.size;have:=HNB0.out;omega)
       obtain ⟨Aw,nw,cw,hvw⟩:∃A n c,u0=.slice A n c:=by
        obtain ⟨A,c,e,-⟩:=Own.form HS.out.1
        exact ⟨A,_,c,e⟩
       subst hvw
       clear hf had hlt'
       go_wp2_with (at_builtin;refine wpList_addA rfl (.tmp 50) (.tmp 55) rfl rfl rfl HS.out.1 HLL.out HNW.out ?_;intro v9 w9 ho9 hg9;have HA9:Hid (AtO w9 base v9 ((L++[(⟨bs nCodec,s2⟩:AttrS)])++(fb.take (k+1)).map fun f=>⟨bs nFeedback,bs (headT ty (tx f))⟩)∧Grew w2 (.slice Av nv cv) w9 v9):=Lib.hid ⟨by rw [HTK.out,←List.append_assoc,←HTX.out];exact ho9,HS.out.2.trans hg9⟩;clear ho9 hg9)
       go_roundw
       case rel=>exact ⟨k+1,by omega,by go_num,HA9.out⟩
       case measure=>simp [intOf];omega
     · have e:k=lf:=by omega
       subst e
       have HQ:Hid (AtO wr base u0 ((L++[(⟨bs nCodec,s2⟩:AttrS)])++fb.map fun f=>⟨bs nFeedback,bs (headT ty (tx f))⟩)):=Lib.hid (by
        have:=HS.out.1
        rw [List.take_of_length_le (by rw [HV.out.2.1];exact Nat.le_refl _)] at this
        exact this)
       go_wp2
       go_ret
       exact ⟨_,rfl,by rw [HF.out,HEND.out];exact HQ.out,HGW.out.trans HS.out.2⟩
  | false =>
    have q7:¬9223372036854775807<kd.size+fm.size:=by omega
    have HTF:Hid (kd++fm=bs (headT ty (tx fm))):=Lib.hid (tx_inj (by rw [tx_append,HKD.out,tx_bs];simp [headT]))
    have HL5:Hid ((L++[(⟨bs nCodec,s2⟩:AttrS)]).length≤1000000):=Lib.hid (by rw [List.length_append];simp;omega)
    have HN5:Hid (base≤w5.heap.size):=Lib.hid (by have:=HA5.out.2.only.size;have:=HBN.out;omega)
    go_upto_region 8 with (at_builtin;refine wpList_addA rfl (.tmp 35) (.tmp 41) rfl rfl rfl HA5.out.1 HL5.out HN5.out ?_;intro v6 w6 ho6 hg6;have HA6:Hid (AtO w6 base v6 (L++[(⟨bs nCodec,s2⟩:AttrS)]++[(⟨bs nFormat,kd++fm⟩:AttrS)])∧Grew w2 (.slice Av nv cv) w6 v6):=Lib.hid ⟨ho6,HA5.out.2.trans hg6⟩;clear ho6 hg6)
    obtain ⟨Ay,ny,cy,hvy⟩:∃A n c,v6=.slice A n c:=by
     obtain ⟨A,c,e,-⟩:=Own.form HA6.out.1
     exact ⟨A,_,c,e⟩
    subst hvy
    have HEND:Hid (L++(⟨bs nCodec,bs (decI ty++32 :: (tx nm++47 :: (decI ck++(if ch=2 then [47,50] else []))))⟩ :: ((if false=true then [] else [⟨bs nFormat,bs (headT ty (tx fm))⟩])++fb.map fun f=>(⟨bs nFeedback,bs (headT ty (tx f))⟩:AttrS)))=(L++[(⟨bs nCodec,s2⟩:AttrS)]++[(⟨bs nFormat,kd++fm⟩:AttrS)])++fb.map fun f=>⟨bs nFeedback,bs (headT ty (tx f))⟩):=Lib.hid (by rw [HS2.out,HTF.out];simp)
    have HLN:Hid ((L++[(⟨bs nCodec,s2⟩:AttrS)]++[(⟨bs nFormat,kd++fm⟩:AttrS)]).length≤900002):=Lib.hid (by rw [List.length_append,List.length_append];simp;omega)
    have k5:w6.cell? ⟨N,5,none⟩=some (.slice Af lf kf):=(HGX.out _ _ HA6.out.2).cell 5
    go_wp2
    go_loopw [46,0] (fun s46 s0 wr=>∃k:Nat,k≤lf∧s46=.int .i64 k∧(AtO wr base s0 ((L++[(⟨bs nCodec,s2⟩:AttrS)]++[(⟨bs nFormat,kd++fm⟩:AttrS)])++(fb.take k).map fun f=>⟨bs nFeedback,bs (headT ty (tx f))⟩)∧Grew w2 (.slice Av nv cv) wr s0)) (fun s46 _ _=>lf - (intOf s46).toNat)
    case atStart=>exact ⟨0,by omega,rfl,by simpa using HA6.out.1,HA6.out.2⟩
    case round =>
     obtain ⟨k,hk,rfl,hst⟩:=hrel
     have HS:=Lib.hid hst
     clear hst
     have HBL:Hid (Below base w wr):=Lib.hid ((HGW.out.trans HS.out.2).below HVB.out HNB0.out)
     by_cases hlt:k<lf
     · have hlt':k<fb.length:=by rw [HV.out.2.1];exact hlt
       obtain ⟨ad,c',e1,had,d0⟩:=(HVW.out.below HBL.out).at_ hlt'
       injection e1 with e1 e1n e1c
       clear e1n e1c
       subst e1
       have hfs:=HV.out.2.2 _ (getD_mem hlt')
       have HTK:Hid (((fb.take (k+1)).map fun f=>(⟨bs nFeedback,bs (headT ty (tx f))⟩:AttrS))=((fb.take k).map fun f=>⟨bs nFeedback,bs (headT ty (tx f))⟩)++[⟨bs nFeedback,bs (headT ty (tx (fb.getD k default)))⟩]):=Lib.hid (by rw [List.take_add_one,getD_of hlt'];simp)
       obtain ⟨f,hf⟩:∃f,fb.getD k default=f:=⟨_,rfl⟩
       rw [hf] at d0 hfs HTK
       have hk0':(0:Int)≤(k:Int):=by omega
       have hk1':(k:Int)<(lf:Int):=by omega
       have q9:¬9223372036854775807<kd.size+f.size:=by omega
       have HTX:Hid (kd++f=bs (headT ty (tx f))):=Lib.hid (tx_inj (by rw [tx_append,HKD.out,tx_bs];simp [headT]))
       have HLL:Hid (((L++[(⟨bs nCodec,s2⟩:AttrS)]++[(⟨bs nFormat,kd++fm⟩:AttrS)])++(fb.take k).map fun f=>(⟨bs nFeedback,bs (headT ty (tx f))⟩:AttrS)).length≤1000000):=Lib.hid (by
        rw [List.length_append,List.length_map,List.length_take]
        have:=HLN.out
        omega)
       have HNW:Hid (base≤wr.heap.size):=Lib.hid (by have:=HBL.out.size;have:=HNB0.out;omega)
       obtain ⟨Aw,nw,cw,hvw⟩:∃A n c,u0=.slice A n c:=by
        obtain ⟨A,c,e,-⟩:=Own.form HS.out.1
        exact ⟨A,_,c,e⟩
       subst hvw
       clear hf had hlt'
       go_wp2_with (at_builtin;refine wpList_addA rfl (.tmp 50) (.tmp 55) rfl rfl rfl HS.out.1 HLL.out HNW.out ?_;intro v9 w9 ho9 hg9;have HA9:Hid (AtO w9 base v9 ((L++[(⟨bs nCodec,s2⟩:AttrS)]++[(⟨bs nFormat,kd++fm⟩:AttrS)])++(fb.take (k+1)).map fun f=>⟨bs nFeedback,bs (headT ty (tx f))⟩)∧Grew w2 (.slice Av nv cv) w9 v9):=Lib.hid ⟨by rw [HTK.out,←List.append_assoc,←HTX.out];exact ho9,HS.out.2.trans hg9⟩;clear ho9 hg9)
       go_roundw
       case rel=>exact ⟨k+1,by omega,by go_num,HA9.out⟩
       case measure=>simp [intOf];omega
     · have e:k=lf:=by omega
       subst e
       have HQ:Hid (AtO wr base u0 ((L++[(⟨bs nCodec,s2⟩:AttrS)]++[(⟨bs nFormat,kd++fm⟩:AttrS)])++fb.map fun f=>⟨bs nFeedback,bs (headT ty (tx f))⟩)):=Lib.hid (by
        have:=HS.out.1
        rw [List.take_of_length_le (by rw [HV.out.2.1];exact Nat.le_refl _)] at this
        exact this)
       go_wp2
       go_ret
       exact ⟨_,rfl,by rw [HF.out,HEND.out];exact HQ.out,HGW.out.trans HS.out.2⟩
def mcell (m:MediaS) (vC vE vR vS vY:Value):Array Value:=#[.int .i64 m.kind,.int .i64 m.port,.string m.mid,.int .i64 m.dir,vC,vE,vR,.bool m.sending,vS,vY,.int .i64 m.sctp]
def ccell (c:CodecS) (v:Value):List Value:=[.int .i64 c.type,.string c.name,.int .i64 c.clock,.int .i64 c.chans,.string c.format,v]
def tcell (s:ByteArray):List Value:=[.string s]
def ecell (x:ExtS):List Value:=[.int .i64 x.id,.string x.uri]
def ucell (n:Nat):List Value:=[.int .u32 n]
structure MW (base bm n:Nat) (w:World) (m:MediaS) (cs:List (CodecS×Value)) (vC vE vR vS vY:Value):Prop where
 eqC:m.codecs=cs.map (·.1)
 box:Whole w bm 28 (mcell m vC vE vR vS vY)
 hC:Own w base 31 6 vC (cs.map fun c=>ccell c.1 c.2)
 hF:∀c∈cs,Own w base 9 1 c.2 (c.1.feedback.map tcell)
 hE:Own w base 71 2 vE (m.exts.map ecell)
 hR:Own w base 9 1 vR (m.rids.map tcell)
 hS:Own w base 72 1 vS (m.sources.map ucell)
 hY:Own w base 75 31 vY (m.crypto.map cryC)
 ap:(vR :: cs.map (·.2)).Pairwise fun a b=>a.ownBlock=none∨a.ownBlock≠b.ownBlock
 hbm:base≤bm
 siz:SizM m
 lens:m.codecs.length≤n∧m.exts.length≤n∧m.rids.length≤n∧m.sources.length≤n∧m.crypto.length≤n∧∀c∈m.codecs,c.feedback.length≤n
structure Rdt (base bm:Nat) (w w':World):Prop where
 low:Below base w w'
 kept:∀(g:Nat) (t:TypeId) (cs:Array Value),Whole w g t cs→t≠31→t≠71→t≠9→t≠72→t≠75→g≠bm→Whole w' g t cs
 rest:Go.KeepsOthers w w'
theorem Own.others {w w':World} {base sz:Nat} {e:TypeId} {v:Value} {rs:List (List Value)} (h:Own w base e sz v rs) (hg:w.grownBy w' v.ownBlock):Go.KeepsOthers w w':=Go.KeepsOthers.of_grownBy hg fun j o hj ho=>by
 obtain ⟨cs,hc⟩:=h.whole hj
 rw [show w.heap[j]? = _ from hc] at ho
 cases ho
 rfl
theorem others_under {w w':World} (hb:Below w.heap.size w w'):Go.KeepsOthers w w':=⟨hb.size,fun k o hk _=>(hb.block k (Array.getElem?_eq_some_iff.1 hk).1).trans hk⟩
section
variable {base bm n:Nat} {w w' w2:World} {m:MediaS} {cs:List (CodecS×Value)} {vC vE vR vS vY:Value}
theorem Rdt.refl (base bm:Nat) (w:World):Rdt base bm w w:=⟨Below.refl _ _,fun _ _ _ h _ _ _ _ _ _=>h,Go.KeepsOthers.refl _⟩
theorem Rdt.trans (h:Rdt base bm w w') (k:Rdt base bm w' w2):Rdt base bm w w2:=⟨h.low.trans k.low,fun g t cs hw h1 h2 h3 h4 h5 h6=>k.kept g t cs (h.kept g t cs hw h1 h2 h3 h4 h5 h6) h1 h2 h3 h4 h5 h6,h.rest.trans k.rest⟩
theorem Rdt.under (h:Rdt base bm w w') (hb:Below w'.heap.size w' w2) (hB:base≤w'.heap.size):Rdt base bm w w2:=h.trans ⟨hb.mono hB,fun g t cs hw _ _ _ _ _ _=>hw.under hb,others_under hb⟩
theorem Rdt.cell (h:Rdt base bm w w') (hbm:base≤bm) (i:Nat) (u:Value):Rdt base bm w (w'.setCell ⟨bm,i,none⟩ u):=h.trans ⟨(Below.refl _ _).setCell (p:=⟨bm,i,none⟩) hbm _,fun g t cs hw _ _ _ _ _ h6=>hw.far (p:=⟨bm,i,none⟩) h6 _,Go.KeepsOthers.setCell _ _ _⟩
theorem MW.under (h:MW base bm n w m cs vC vE vR vS vY) (hb:Below w.heap.size w w'):MW base bm n w' m cs vC vE vR vS vY :=
 ⟨h.eqC,h.box.under hb,h.hC.under hb,fun c hc=>(h.hF c hc).under hb,h.hE.under hb,h.hR.under hb,h.hS.under hb,h.hY.under hb,h.ap,h.hbm,h.siz,h.lens⟩
theorem MW.drewN (h:MW base bm n w m cs vC vE vR vS vY) (k:Nat):MW base bm n (w.drewN k) m cs vC vE vR vS vY :=
 ⟨h.eqC,h.box,h.hC,h.hF,h.hE,h.hR,h.hS,h.hY,h.ap,h.hbm,h.siz,h.lens⟩
theorem MW.drew (h:MW base bm n w m cs vC vE vR vS vY):MW base bm n w.drew m cs vC vE vR vS vY :=
 ⟨h.eqC,h.box,h.hC,h.hF,h.hE,h.hR,h.hS,h.hY,h.ap,h.hbm,h.siz,h.lens⟩
theorem MW.cell (h:MW base bm n w m cs vC vE vR vS vY) {m':MediaS} (i:Nat) (u:Value) (hx:(mcell m vC vE vR vS vY).setIfInBounds i u=mcell m' vC vE vR vS vY)
 (h1:m'.codecs=m.codecs) (h2:m'.exts=m.exts) (h3:m'.rids=m.rids) (h4:m'.sources=m.sources) (h5:m'.crypto=m.crypto) (hz:m'.mid.size≤140737488355328):MW base bm n (w.setCell ⟨bm,i,none⟩ u) m' cs vC vE vR vS vY:=by
 refine ⟨by rw [h1];exact h.eqC,?_,h.hC.far (p:=⟨bm,i,none⟩) (h.hC.apart h.box (by decide)) u,fun c hc=>(h.hF c hc).far (p:=⟨bm,i,none⟩) ((h.hF c hc).apart h.box (by decide)) u,?_,?_,?_,?_,h.ap,h.hbm,?_,by rw [h1,h2,h3,h4,h5];exact h.lens⟩
 · rw [←hx]
   exact h.box.set i u
 · rw [h2]
   exact h.hE.far (p:=⟨bm,i,none⟩) (h.hE.apart h.box (by decide)) u
 · rw [h3]
   exact h.hR.far (p:=⟨bm,i,none⟩) (h.hR.apart h.box (by decide)) u
 · rw [h4]
   exact h.hS.far (p:=⟨bm,i,none⟩) (h.hS.apart h.box (by decide)) u
 · rw [h5]
   exact h.hY.far (p:=⟨bm,i,none⟩) (h.hY.apart h.box (by decide)) u
 · obtain ⟨z1,z2,z3,z4,z5,⟨z6,z7⟩,z8⟩:=h.siz
   exact ⟨hz,by rw [h1];exact z2,by rw [h1];exact z3,by rw [h2];exact z4,by rw [h3];exact z5,⟨by rw [h4];exact z6,by rw [h5];exact z7⟩,by rw [h1,h2,h3,h4,h5];exact z8⟩
theorem MW.media (h:MW base bm n w m cs vC vE vR vS vY):MediaV w w.heap.size (mcell m vC vE vR vS vY) m vC vE vR vS vY:=by
 refine ⟨rfl,?_,?_,?_,?_,?_⟩
 · refine h.hC.rows (L:=m.codecs) (Nat.le_refl _) (by rw [h.eqC];simp) (fun i r x f hr hx hf=> ?_)
   rw [h.eqC,List.getElem?_map] at hx
   rw [List.getElem?_map] at hr
   cases hc:cs[i]? with
   | none=>rw [hc] at hx;cases hx
   | some c =>
     rw [hc] at hx hr
     obtain rfl:c.1=x:=by simpa using hx
     obtain rfl:ccell c.1 c.2=r:=by simpa using hr
     refine ⟨hf 0 (by decide),hf 1 (by decide),hf 2 (by decide),hf 3 (by decide),hf 4 (by decide),c.2,hf 5 (by decide),?_⟩
     refine (h.hF c (List.mem_of_getElem? hc)).rows (L:=c.1.feedback) (Nat.le_refl _) (by simp) (fun i r x f hr hx hf=> ?_)
     rw [List.getElem?_map,hx] at hr
     obtain rfl:tcell x=r:=by simpa using hr
     exact hf 0 (by decide)
 · refine h.hE.rows (L:=m.exts) (Nat.le_refl _) (by simp) (fun i r x f hr hx hf=> ?_)
   rw [List.getElem?_map,hx] at hr
   obtain rfl:ecell x=r:=by simpa using hr
   exact ⟨hf 0 (by decide),hf 1 (by decide)⟩
 · refine h.hR.rows (L:=m.rids) (Nat.le_refl _) (by simp) (fun i r x f hr hx hf=> ?_)
   rw [List.getElem?_map,hx] at hr
   obtain rfl:tcell x=r:=by simpa using hr
   exact hf 0 (by decide)
 · refine h.hS.rows (L:=m.sources) (Nat.le_refl _) (by simp) (fun i r x f hr hx hf=> ?_)
   rw [List.getElem?_map,hx] at hr
   obtain rfl:ucell x=r:=by simpa using hr
   exact hf 0 (by decide)
 · refine h.hY.rows (L:=m.crypto) (Nat.le_refl _) (by simp) (fun i r x f hr hx hf=> ?_)
   rw [List.getElem?_map,hx] at hr
   obtain rfl:cryC x=r:=by simpa using hr
   exact ⟨h.siz.typed.2 x (List.mem_of_getElem? hx),fun j hj=>hf j hj⟩
end
def RdO (base bm n:Nat) (w:World) (m':MediaS) (e:Ending) (w':World):Prop:=e=.returned (.tuple #[])∧(∃cs vC vE vR vS vY,MW base bm n w' m' cs vC vE vR vS vY)∧Rdt base bm w w'
set_option maxHeartbeats 800000 in
theorem readMid_any (base bm n:Nat) (s:ByteArray) (m:MediaS) (cs:List (CodecS×Value)) (vC vE vR vS vY:Value) (w:World) (h:MW base bm n w m cs vC vE vR vS vY) (hs:s.size≤140737488355328) :
 Calls Tryz.prog 114 #[.pointer (some ⟨bm,0,none⟩),.string s] w (RdO base bm n w {m with mid:=s}):=by
 have e0:w.cell? ⟨bm,2,none⟩=some (.string m.mid):=h.box.cell 2
 have q0:=h.box.frz
 have HF:=Lib.hid (h.cell (m':={m with mid:=s}) 2 (.string s) rfl rfl rfl rfl rfl rfl hs)
 have HR:=Lib.hid ((Rdt.refl base bm w).cell h.hbm 2 (.string s))
 clear h
 go_enter Tryz.func114,Tryz.ntmps114
 go_wp2
 go_end0
 exact ⟨rfl,⟨_,_,_,_,_,_,HF.out⟩,HR.out⟩
set_option maxHeartbeats 800000 in
theorem readNothing_any (base bm n:Nat) (s:ByteArray) (m:MediaS) (cs:List (CodecS×Value)) (vC vE vR vS vY:Value) (w:World) (h:MW base bm n w m cs vC vE vR vS vY) :
 Calls Tryz.prog 120 #[.pointer (some ⟨bm,0,none⟩),.string s] w (RdO base bm n w m):=by
 have HF:=Lib.hid h
 clear h
 go_enter Tryz.func120,Tryz.ntmps120
 go_wp2
 go_end0
 exact ⟨rfl,⟨_,_,_,_,_,_,HF.out⟩,Rdt.refl _ _ _⟩
set_option maxHeartbeats 800000 in
theorem readSctp_any (base bm n:Nat) (s:ByteArray) (m:MediaS) (cs:List (CodecS×Value)) (vC vE vR vS vY:Value) (w:World) (h:MW base bm n w m cs vC vE vR vS vY) (hE:EnvR w) (hs:s.size≤281474976710656) :
 Calls Tryz.prog 123 #[.pointer (some ⟨bm,0,none⟩),.string s] w (RdO base bm n w {m with sctp:=numP (tx s)}):=by
 have HN:=Lib.hid (number_any s w hE hs)
 have HM:=Lib.hid h
 have hbw:base≤w.heap.size:=Nat.le_trans h.hbm (Nat.le_of_lt h.box.lt)
 have HX:Hid (∀w1,Below w.heap.size w w1→(∃cs vC vE vR vS vY,MW base bm n (w1.setCell ⟨bm,10,none⟩ (.int .i64 (numP (tx s)))) {m with sctp:=numP (tx s)} cs vC vE vR vS vY)∧Rdt base bm w (w1.setCell ⟨bm,10,none⟩ (.int .i64 (numP (tx s))))):=Lib.hid fun w1 hb =>
  ⟨⟨_,_,_,_,_,_,(HM.out.under hb).cell (m':={m with sctp:=numP (tx s)}) 10 _ rfl rfl rfl rfl rfl rfl HM.out.siz.mid⟩,(((Rdt.refl base bm w).under hb hbw).cell HM.out.hbm 10 _)⟩
 have HC:Hid (∀w1,Below w.heap.size w w1→w1.cell? ⟨bm,10,none⟩=some (.int .i64 m.sctp)∧∀i,w1.frozen? ⟨bm,i,none⟩=false):=Lib.hid fun w1 hb=>⟨(HM.out.under hb).box.cell 10,(HM.out.under hb).box.frz⟩
 generalize numP (tx s)=k at *
 clear h hE
 go_enter Tryz.func123,Tryz.ntmps123
 go_wp2_with (go_at_call 54;(with_reducible refine HN.out.mono ?_);rintro e w1 ⟨rfl,hb1⟩;have H1:=Lib.hid (HX.out w1 hb1);obtain ⟨c0,q0⟩:=HC.out w1 hb1;clear hb1;dsimp only)
 go_end0
 exact ⟨rfl,H1.out.1,H1.out.2⟩
end Go.Proofs.YtgnpckelbokniaaGreatDoor
