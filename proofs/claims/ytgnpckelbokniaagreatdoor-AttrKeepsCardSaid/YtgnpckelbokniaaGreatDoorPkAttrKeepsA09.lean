import Derived.Test.YtgnpckelbokniaaGreatDoorPkAttrKeepsA00
import Derived.Test.YtgnpckelbokniaaGreatDoorPkAttrKeepsA01
import Derived.Test.YtgnpckelbokniaaGreatDoorPkAttrKeepsA02
import Derived.Test.YtgnpckelbokniaaGreatDoorPkAttrKeepsA03
import Derived.Test.YtgnpckelbokniaaGreatDoorPkAttrKeepsA04
import Derived.Test.YtgnpckelbokniaaGreatDoorPkAttrKeepsA05
import Derived.Test.YtgnpckelbokniaaGreatDoorPkAttrKeepsA06
import Derived.Test.YtgnpckelbokniaaGreatDoorPkAttrKeepsA07
import Derived.Test.YtgnpckelbokniaaGreatDoorPkAttrKeepsA08
import Derived.OrdersHeld
import Derived.WalkKit
import Derived.Lib.Hide
import Derived.Deep.RegionHeld3
import Derived.Deep.MidRow
import Derived.ProofKit
import Derived.WalkSpells
import Derived.Below
import Derived.Deep.Draws
import Derived.Laws.Rows
import Derived.ArgAppend
import Derived.Laws.IdiomCopy
import Derived.Maps.AppendAt
import Derived.Deep.RegionLaw
import Derived.OwnWalk
import Derived.Outline
import Derived.Handy
import Derived.LoopTactic
import Derived.RegionTactic
import Derived.ChangeAlike
import Derived.BigRegion
import Derived.Deep.QuietTactic
import Derived.BigQuiet
import Derived.Deep.DeepMust
import Derived.Deep.CutRange
import Derived.Deep.DeepCutAuto
import Derived.Deep.LoopGhost
import Derived.StillTailTactics
import Derived.Laws.AppendOwnNone
import Derived.Lib.AppendZeros
import Derived.Laws.CopyOwn
import Derived.Laws.BytesArg
import Derived.Shelf.Abstract
import Derived.Laws.StructEq
import Derived.Lib.IndexMore
import Derived.Lib.Join
import Derived.Lib.SmallJoins
import Derived.Lib.AppendIntMem
import Derived.Deep.Slices
import Derived.RangeFuncNested
import Derived.Deep.CutBlock
import Derived.Great.BuildSlice
import Derived.RangeFuncBound
import Derived.RangeFuncCalls
import Derived.RangeFuncLeaves
import Derived.OwnWalkIn
import Derived.TacticsInMore
import Derived.LoopNIn
import Derived.LoopIn
namespace Go.Proofs.YtgnpckelbokniaaGreatDoor
open Go.RowKit
set_option linter.unusedVariables false
set_option linter.unusedSimpArgs false
theorem srcP_lt (l:Tx):srcP l<4294967296:=by
 unfold srcP
 cases h:Lib.parseUintB 32 l with
 | ok u =>
   have:=Lib.parseUintB_le h
   show u<_
   omega
 | range=>decide
 | _=>decide
set_option maxHeartbeats 800000 in
theorem parseU_any (s:ByteArray) (w:World) (hE:EnvR w) (hs:s.size≤281474976710656):Calls Tryz.prog 169 #[.string s,.int .i64 10,.int .i64 32] w fun e w'=>(∃er,e=.returned (.tuple #[.int .u64 (srcP (tx s):Nat),er]))∧Below w.heap.size w w':=by
 cases h:Lib.parseUintB 32 s.data.toList with
 | ok v =>
   have hn:srcP (tx s)=v:=by
    show (match Lib.parseUintB 32 s.data.toList with | .ok v=>v | Lib.NumEnd.syntax=>0 | .range=>4294967295)=v
    rw [h]
   rw [hn]
   refine (Tryz.strconv_ParseUint_10_at32_ok s (by omega) v h w).mono fun e w' hh=>⟨⟨_,hh.1⟩,?_⟩
   rcases hh.2 with rfl | rfl
   · exact Below.refl _ _
   · exact bytes_below w s
 | range =>
   have hn:srcP (tx s)=4294967295:=by
    show (match Lib.parseUintB 32 s.data.toList with | .ok v=>v | Lib.NumEnd.syntax=>0 | .range=>4294967295)=4294967295
    rw [h]
   rw [hn]
   obtain ⟨ev,hv,hev⟩:=hE.rng
   exact (Tryz.strconv_ParseUint_10_at32_range s hs h ev w hv hev).mono fun e w' ⟨N,h1,_,_,h4⟩=>⟨⟨_,h1⟩,h4⟩
 | _ =>
   have hn:srcP (tx s)=0:=by
    show (match Lib.parseUintB 32 s.data.toList with | .ok v=>v | Lib.NumEnd.syntax=>0 | .range=>4294967295)=0
    rw [h]
   rw [hn]
   obtain ⟨ev,hv,hev⟩:=hE.syn
   exact (Tryz.strconv_ParseUint_10_at32_syntax s hs h ev w hv hev).mono fun e w' ⟨N,h1,_,_,h4⟩=>⟨⟨_,h1⟩,h4⟩
end Go.Proofs.YtgnpckelbokniaaGreatDoor
namespace Go.Proofs.YtgnpckelbokniaaGreatDoor
set_option linter.unusedVariables false
set_option linter.unusedSimpArgs false
theorem keyP_len (l:Tx):(keyP l).length=30:=by
 unfold keyP
 split
 · next h=>exact decK_len 10 l (by omega)
 · simp
end Go.Proofs.YtgnpckelbokniaaGreatDoor
namespace Go.Proofs.YtgnpckelbokniaaGreatDoor
open Go.RowKit
set_option linter.unusedVariables false
set_option linter.unusedSimpArgs false
theorem six_u32 (c:UInt8):bits BinOp.and IntKind.u32 (Lib.indexByte wLetters c % 4294967296) 63=((sixP c:Nat):Int):=by
 unfold sixP
 by_cases h:Lib.indexByte wLetters c=-1
 · rw [h,if_pos rfl]
   exact and63_u32 4294967295 63 (by decide) (by decide) (by decide)
 · have hlt:=sixP_lt c
   unfold sixP at hlt
   rw [if_neg h] at hlt ⊢
   have hge:=Lib.indexByte_ge wLetters c
   obtain ⟨k,hk⟩:∃k:Nat,Lib.indexByte wLetters c=k:=⟨(Lib.indexByte wLetters c).toNat,by omega⟩
   rw [hk] at hlt ⊢
   have hk64:k<64:=by simpa using hlt
   rw [show ((k:Nat):Int) % 4294967296=((k:Nat):Int) by omega]
   exact and63_u32 k _ (by omega) (by omega) (by simp;omega)
theorem step_u32 (x:Nat) (hx:x<262144) (c:UInt8):bits BinOp.or IntKind.u32 ((x:Int) * 64 % 4294967296) (bits BinOp.and IntKind.u32 (Lib.indexByte wLetters c % 4294967296) 63)=((x * 64+sixP c:Nat):Int):=by
 have hc:=sixP_lt c
 rw [six_u32,show (x:Int) * 64 % 4294967296=((x * 64:Nat):Int) by omega,u32_or_nat _ _ (by omega) (by omega)]
 have:=nat_or x (sixP c) 6 (by simpa using hc)
 rw [show (2:Nat) ^ 6=64 by decide] at this
 rw [this]
set_option maxHeartbeats 3200000 in
set_option maxRecDepth 100000 in
theorem readKey_any (s:ByteArray) (w:World) (hs:s.size≤281474976710656):Calls Tryz.prog 170 #[.string s] w fun e w'=>e=.returned (.agg (keyC (keyP (tx s))).toArray)∧Below w.heap.size w w':=by
 have hb0:Below w.heap.size w ((w.alloc (.cells zKey 73)).alloc (.cells zKey 73)):=two_new _ _ _ _
 have hr:=(Whole.new w 73 zKey).alloc (.cells zKey 73)
 have hk:=Whole.new2 w (.cells zKey 73) 73 zKey
 obtain ⟨N,hN⟩:∃N,w.heap.size=N:=⟨_,rfl⟩
 have HN:=Lib.hid hN
 have H0:=Lib.hid (And.intro hb0 (And.intro hr hk))
 rw [hN] at H0
 clear hN hb0 hr hk
 obtain ⟨l,hl⟩:∃l,tx s=l:=⟨_,rfl⟩
 have HTS:=Lib.hid hl
 have hlen:l.length=s.size:=by rw [←hl,tx_length]
 rw [hl]
 clear hl
 go_enter Tryz.func170,Tryz.ntmps170
 go_upto_region 2 with fail
 simp only [HN.out]
 generalize (w.alloc (.cells zKey 73)).alloc (.cells zKey 73)=W0 at *
 by_cases h40:s.size=40
 · have h40i:(s.size:Int)=40:=by omega
   have HL:Hid (l.length=40):=Lib.hid (by omega)
   clear hlen
   have HKP:Hid (keyP l=decK l):=Lib.hid (by unfold keyP;rw [if_pos HL.out])
   have HIX:Hid (∀(c:UInt8) W,Calls Tryz.prog 199 #[.string letS,.int .u8 (c.toNat:Int)] W fun e w'=>e=.returned (.int .i64 (Lib.indexByte wLetters c))∧w'=W):=Lib.hid fun c W=>by
    have:=Tryz.strings_IndexByte letS (c.toNat:Int) W
    rw [show ((c.toNat:Int).toNat.toUInt8)=c by simp] at this
    exact this
   go_wp2
   go_loopw [4,0,5] (fun s4 s0 _ wr=>∃(t:Nat) (r:ByteArray),t≤10∧s4=.int .i64 ((3 * t:Nat):Int)∧s0=.string r∧(tx r=l.drop (4 * t)∧Below N w wr∧Whole wr N 73 zKey∧Whole wr (N+1) 73 (keyC (decK (l.take (4 * t))++List.replicate (30 - 3 * t) 0)).toArray)) (fun s4 _ _ _=>30 - (intOf s4).toNat)
   case atStart=>exact ⟨0,s,by omega,rfl,rfl,HTS.out,H0.out.1,H0.out.2.1,H0.out.2.2⟩
   case round =>
    obtain ⟨t,r,ht,rfl,rfl,hst⟩:=hrel
    have HS:=Lib.hid hst
    clear hst
    by_cases hlt:t<10
    · obtain ⟨i,hi⟩:∃i,3 * t=i:=⟨_,rfl⟩
      have HTI:=Lib.hid hi
      simp only [hi]
      have hi1:(i:Int)<30:=by omega
      have hi0:(0:Int)≤(i:Int):=by omega
      clear hi
      generalize wr=wo at *
      go_wp2
      go_loopw [14,5,0] (fun s14 s5 s0 wq=>∃(p:Nat) (r:ByteArray),p≤4∧s14=.int .i64 p∧s5=.int .u32 (pre4 ((l.drop (4 * t)).take p):Nat)∧s0=.string r∧(tx r=l.drop (4 * t+p)∧wq=wo)) (fun s14 _ _ _=>4 - (intOf s14).toNat)
      case atStart=>exact ⟨0,r,by omega,rfl,rfl,rfl,HS.out.1,rfl⟩
      case round =>
       obtain ⟨p,r,hp,rfl,rfl,rfl,hst⟩:=hrel
       obtain ⟨hst,rfl⟩:=hst
       have HI:=Lib.hid (And.intro hst True.intro)
       clear hst
       by_cases hlp:p<4
       · have hrl:r.size=40 - (4 * t+p):=by rw [←tx_length,HI.out.1,List.length_drop,HL.out]
         have hr0:0<r.size:=by omega
         have hr0i:(0:Int)<(r.size:Int):=by omega
         have hr1:(1:Int)≤(r.size:Int):=by omega
         have hr2:1≤r.size:=by omega
         have hp0:(p:Int)<4:=by omega
         obtain ⟨x,hx⟩:∃x,pre4 ((l.drop (4 * t)).take p)=x:=⟨_,rfl⟩
         simp only [hx]
         have HX:=Lib.hid hx
         have HRL:=Lib.hid hrl
         have HXL:Hid (x<262144):=Lib.hid (by
          rw [←hx]
          have h1:=pre4_lt ((l.drop (4 * t)).take p)
          have h2:64 ^ ((l.drop (4 * t)).take p).length≤64 ^ 3:=Nat.pow_le_pow_right (by decide) (by have:=List.length_take_le p (l.drop (4 * t));omega)
          have h3:(64:Nat) ^ 3=262144:=by decide
          omega)
         have HPX:Hid (∀h:0<r.size,pre4 ((l.drop (4 * t)).take (p+1))=x * 64+sixP (r[0]'h)):=Lib.hid fun h=>by
          have h1:(l.drop (4 * t))[p]? = some (r[0]'h):=by
           have h2:(tx r)[0]? = some (r[0]'h):=by
            rw [List.getElem?_eq_getElem (by rw [tx_length];exact h)]
            rfl
           rw [HI.out.1,List.getElem?_drop] at h2
           rw [List.getElem?_drop]
           exact h2
          rw [List.take_add_one,h1,←hx]
          exact pre4_snoc _ _
         clear hx hrl
         go_wp2_with (go_at_call 199;(refine (HIX.out _ _).mono ?_);rintro e w3 ⟨rfl,rfl⟩;dsimp only)
         go_roundw
         case rel =>
          refine ⟨p+1,_,by omega,by go_num,?_,rfl,?_,trivial⟩
          · rw [step_u32 x HXL.out,HPX.out hr0]
          · rw [tx_extract,HI.out.1,List.drop_drop,List.take_of_length_le (by rw [List.length_drop,HL.out];have:=HRL.out;omega)]
            rfl
         case measure=>simp [intOf];omega
       · have e:p=4:=by omega
         subst e
         obtain ⟨a,b,c,d,habcd⟩:∃a b c d:UInt8,(l.drop (4 * t)).take 4=[a,b,c,d]:=by
          have h4:((l.drop (4 * t)).take 4).length=4:=by rw [List.length_take,List.length_drop,HL.out];omega
          match (l.drop (4 * t)).take 4,h4 with
          | [a,b,c,d],_=>exact ⟨a,b,c,d,rfl⟩
         have HD:Hid (decK (l.take (4 * (t+1)))=decK (l.take (4 * t))++dec4 a b c d):=Lib.hid (by
          rw [show 4 * (t+1)=4 * t+4 by omega,List.take_add,habcd,decK_snoc a b c d t _ (by rw [List.length_take,HL.out];omega)])
         have HN4:Hid (pre4 [a,b,c,d]=num4 a b c d):=Lib.hid (by
          unfold pre4 num4
          simp)
         rw [habcd,HN4.out]
         have HLT:=Lib.hid (num4_lt a b c d)
         have HD4:Hid (dec4 a b c d=[UInt8.ofNat (num4 a b c d / 65536),UInt8.ofNat (num4 a b c d / 256),UInt8.ofNat (num4 a b c d)]):=Lib.hid rfl
         obtain ⟨n,hn⟩:∃n,num4 a b c d=n:=⟨_,rfl⟩
         simp only [hn] at HLT HD4 ⊢
         clear habcd hn HN4
         have hn0:=HLT.out
         obtain ⟨A,hA⟩:∃A,decK (l.take (4 * t))=A:=⟨_,rfl⟩
         have HAL:Hid (A.length=i):=Lib.hid (by rw [←hA,decK_len t _ (by rw [List.length_take,HL.out];omega)];exact HTI.out)
         rw [hA] at HD
         obtain ⟨k,hk⟩:∃k,30 - 3 * t=k+3:=⟨27 - 3 * t,by omega⟩
         have HS4:Hid (Whole wr (N+1) 73 (keyC (A++List.replicate (k+3) 0)).toArray):=Lib.hid (by have:=HS.out.2.2.2;rw [hA,hk] at this;exact this)
         have HK:Hid (30 - 3 * (t+1)=k):=Lib.hid (by omega)
         clear hA hk
         have hz:∀j,j<3→(keyC (A++List.replicate (k+3) 0)).toArray[i+j]? = some (.int .u8 0):=fun j hj=>by
          rw [List.getElem?_toArray]
          unfold keyC
          rw [List.getElem?_map,List.getElem?_append_right (by rw [HAL.out];omega),HAL.out,List.getElem?_replicate,if_pos (by omega)]
          rfl
         have d0:wr.cell? ⟨N+1,i,none⟩=some (.int .u8 0):=(HS4.out.cell i).trans (hz 0 (by decide))
         have d1:wr.cell? ⟨N+1,i+1,none⟩=some (.int .u8 0):=(HS4.out.cell (i+1)).trans (hz 1 (by decide))
         have d2:wr.cell? ⟨N+1,i+2,none⟩=some (.int .u8 0):=(HS4.out.cell (i+2)).trans (hz 2 (by decide))
         have fz:=HS4.out.frz
         have hi27:(i:Int)+2<30:=by have:=HTI.out;omega
         have e1:IntKind.i64.wrap ((i:Int)+1)=((i+1:Nat):Int):=(IntWalk.i64_in _ (by omega)).trans (by omega)
         have e2:IntKind.i64.wrap ((i:Int)+2)=((i+2:Nat):Int):=(IntWalk.i64_in _ (by omega)).trans (by omega)
         have b1:((i+1:Nat):Int)<30:=by omega
         have b2:((i+2:Nat):Int)<30:=by omega
         have b3:(0:Int)≤((i+1:Nat):Int):=by omega
         have b4:(0:Int)≤((i+2:Nat):Int):=by omega
         clear hz
         have HRN:Hid (tx r=l.drop (4 * (t+1))):=Lib.hid HI.out.1
         have HV:Hid ((n:Int) / 65536=((UInt8.ofNat (n / 65536)).toNat:Int)∧(n:Int) / 256 % 256=((UInt8.ofNat (n / 256)).toNat:Int)∧(n:Int) % 256=((UInt8.ofNat n).toNat:Int)):=Lib.hid (by
          simp only [UInt8.toNat_ofNat']
          omega)
         have HKS:=Lib.hid (key_set A k (UInt8.ofNat (n / 65536)) (UInt8.ofNat (n / 256)) (UInt8.ofNat n))
         go_wp2
         go_roundw
         case rel =>
          refine ⟨t+1,r,by omega,by have:=HTI.out;go_num,rfl,HRN.out,?_,?_,?_⟩
          · exact ((HS.out.2.1.setCell (p:=⟨N+1,i,none⟩) (Nat.le_succ N) _).setCell (p:=⟨N+1,i+1,none⟩) (Nat.le_succ N) _).setCell (p:=⟨N+1,i+2,none⟩) (Nat.le_succ N) _
          · exact ((HS.out.2.2.1.far (p:=⟨N+1,i,none⟩) (Nat.ne_of_lt (Nat.lt_succ_self N)) _).far (p:=⟨N+1,i+1,none⟩) (Nat.ne_of_lt (Nat.lt_succ_self N)) _).far (p:=⟨N+1,i+2,none⟩) (Nat.ne_of_lt (Nat.lt_succ_self N)) _
          · have h3:=((HS4.out.set i (.int .u8 ((n:Int) / 65536))).set (i+1) (.int .u8 ((n:Int) / 256 % 256))).set (i+2) (.int .u8 ((n:Int) % 256))
            rw [HD.out,HD4.out,HK.out]
            have h4:=HKS.out
            rw [HAL.out,←HV.out.1,←HV.out.2.1,←HV.out.2.2] at h4
            rw [h4] at h3
            exact h3
         case measure=>simp [intOf];omega
    · have e:t=10:=by omega
      subst e
      have HA:Hid ((keyC (decK (l.take (4 * 10))++List.replicate (30 - 3 * 10) 0)).toArray=(keyC (keyP l)).toArray):=Lib.hid (by
       rw [HKP.out,List.take_of_length_le (by rw [HL.out];decide)]
       simp)
      have HF:Hid (Whole wr (N+1) 73 (keyC (keyP l)).toArray):=Lib.hid (by rw [←HA.out];exact HS.out.2.2.2)
      obtain ⟨X,hX⟩:∃X,(keyC (keyP l)).toArray=X:=⟨_,rfl⟩
      have HX:Hid (X.size=30∧X.toList.all (·.oneCell')=true):=Lib.hid (by
       rw [←hX]
       refine ⟨by simp [keyC,keyP_len],?_⟩
       rw [List.all_eq_true]
       intro v hv
       simp only [keyC,List.mem_map] at hv
       obtain ⟨_,_,rfl⟩:=hv
       rfl)
      rw [hX] at HF
      have HXE:=Lib.hid hX
      clear hX
      have HFIN:Hid (Ending.returned (.agg X)=.returned (.agg (keyC (keyP l)).toArray)∧Below w.heap.size w (wr.setRow N X)):=Lib.hid ⟨by rw [HXE.out],by rw [HN.out];exact below_row HS.out.2.1 (Nat.le_refl _) _⟩
      go_wp2_with (first | ((with_reducible refine wpList_load_all ?_ 73 (.tmp 3) ?_ HF.out ?_ Tryz.sizeKey HX.out.1 Tryz.underlying73 ?_ ?_);(with_reducible rfl);(with_reducible rfl);rfl;rfl) | ((with_reducible refine wpList_storeS X ?_ 73 (.tmp 2) (.tmp 43) ?_ ?_ ?_ HS.out.2.2.1 Tryz.sizeKey HX.out.1 ?_ HX.out.2 ?_);(with_reducible rfl);(with_reducible rfl);rfl;rfl;rfl) | ((with_reducible show bodyPost _ _ _ _ _ _);exact bodyPost_ret (ret_struct rfl rfl (HS.out.2.2.1.row _) Tryz.underlying73 rfl Tryz.sizeKey HX.out.1) rfl HFIN.out))
 · have hne:¬(s.size:Int)=40:=by omega
   have HK:Hid (zKey=(keyC (keyP l)).toArray):=Lib.hid (by
    unfold keyP
    rw [if_neg (by omega)]
    rfl)
   have HFIN:Hid (Ending.returned (.agg zKey)=.returned (.agg (keyC (keyP l)).toArray)∧Below w.heap.size w (W0.setRow N zKey)):=Lib.hid ⟨by rw [HK.out],by rw [HN.out];exact below_row H0.out.1 (Nat.le_refl _) _⟩
   go_wp2_with (first | ((with_reducible refine wpList_load_all ?_ 73 (.tmp 3) ?_ H0.out.2.2 ?_ Tryz.sizeKey ?_ Tryz.underlying73 ?_ ?_);(with_reducible rfl);(with_reducible rfl);rfl;rfl;rfl) | ((with_reducible refine wpList_storeS zKey ?_ 73 (.tmp 2) (.tmp 9) ?_ ?_ ?_ H0.out.2.1 Tryz.sizeKey ?_ ?_ ?_ ?_);(with_reducible rfl);(with_reducible rfl);rfl;rfl;rfl;rfl;rfl) | ((with_reducible show bodyPost _ _ _ _ _ _);exact bodyPost_ret (ret_struct rfl rfl (H0.out.2.1.row _) Tryz.underlying73 rfl Tryz.sizeKey rfl) rfl HFIN.out))
theorem Tryz.sizeFour:(Tryz.prog.info? 107).map (·.size)=some 4:=by kernel_rfl
set_option maxHeartbeats 800000 in
theorem readDir_any (base bm n gw:Nat) (k:Int) (s:ByteArray) (m:MediaS) (cs:List (CodecS×Value)) (vC vE vR vS vY:Value) (w:World) (h:MW base bm n w m cs vC vE vR vS vY) (hk:w.cell? ⟨gw,0,none⟩=some (.int .i64 k)) :
 Calls Tryz.prog 124 #[.pointer (some ⟨bm,0,none⟩),.string s,.pointer (some ⟨gw,0,none⟩)] w (RdO base bm n w {m with dir:=k}):=by
 have e0:w.cell? ⟨bm,3,none⟩=some (.int .i64 m.dir):=h.box.cell 3
 have q0:=h.box.frz
 have HF:=Lib.hid (h.cell (m':={m with dir:=k}) 3 (.int .i64 k) rfl rfl rfl rfl rfl rfl h.siz.mid)
 have HR:=Lib.hid ((Rdt.refl base bm w).cell h.hbm 3 (.int .i64 k))
 clear h
 go_enter Tryz.func124,Tryz.ntmps124
 go_wp2
 go_end0
 exact ⟨rfl,⟨_,_,_,_,_,_,HF.out⟩,HR.out⟩
def kindAt (h:Tx) (k:Nat):Int:=if 2≤k∧h=wAudio then 1 else if 3≤k∧h=wVideo then 2 else if 4≤k∧h=wApplication then 3 else 0
theorem kindAt_all (h:Tx):kindAt h 4=kindOf h:=by
 unfold kindAt kindOf
 simp
abbrev tab4:List Value:=[.string ⟨#[]⟩,.string ⟨#[97,117,100,105,111]⟩,.string ⟨#[118,105,100,101,111]⟩,.string ⟨#[97,112,112,108,105,99,97,116,105,111,110]⟩]
theorem Env.tab4 {w:World} (h:Env w):∀j v,tab4[j]? = some v→w.cell? ((⟨1,0,Option.none⟩:Addr).add j)=some v:=fun j v hv=>by
 have hj:j<4:=(List.getElem?_eq_some_iff.1 hv).1
 rw [Addr.add_lit,Nat.zero_add]
 have:j=0∨j=1∨j=2∨j=3:=by omega
 rcases this with rfl | rfl | rfl | rfl
 · rw [h.none,←hv];rfl
 · rw [h.kinds 1 (by decide) (by decide),←hv];rfl
 · rw [h.kinds 2 (by decide) (by decide),←hv];rfl
 · rw [h.kinds 3 (by decide) (by decide),←hv];rfl
theorem idx4_0 (W:World):(Instr.index 107 (.agg #[.string ⟨#[]⟩,.string ⟨#[97,117,100,105,111]⟩,.string ⟨#[118,105,100,101,111]⟩,.string ⟨#[97,112,112,108,105,99,97,116,105,111,110]⟩]) (.int .i64 0)).run Tryz.prog W=.ok (.string ⟨#[]⟩) W:=by
 simp [Instr.index,asIntOf,Sem.run_bind,run_underlying Tryz.underlying107,Tryz.sizeOf9,part,run_underlying Tryz.underlying9,isAgg]
theorem idx4_1 (W:World):(Instr.index 107 (.agg #[.string ⟨#[]⟩,.string ⟨#[97,117,100,105,111]⟩,.string ⟨#[118,105,100,101,111]⟩,.string ⟨#[97,112,112,108,105,99,97,116,105,111,110]⟩]) (.int .i64 1)).run Tryz.prog W=.ok (.string ⟨#[97,117,100,105,111]⟩) W:=by
 simp [Instr.index,asIntOf,Sem.run_bind,run_underlying Tryz.underlying107,Tryz.sizeOf9,part,run_underlying Tryz.underlying9,isAgg]
theorem idx4_2 (W:World):(Instr.index 107 (.agg #[.string ⟨#[]⟩,.string ⟨#[97,117,100,105,111]⟩,.string ⟨#[118,105,100,101,111]⟩,.string ⟨#[97,112,112,108,105,99,97,116,105,111,110]⟩]) (.int .i64 2)).run Tryz.prog W=.ok (.string ⟨#[118,105,100,101,111]⟩) W:=by
 simp [Instr.index,asIntOf,Sem.run_bind,run_underlying Tryz.underlying107,Tryz.sizeOf9,part,run_underlying Tryz.underlying9,isAgg]
theorem idx4_3 (W:World):(Instr.index 107 (.agg #[.string ⟨#[]⟩,.string ⟨#[97,117,100,105,111]⟩,.string ⟨#[118,105,100,101,111]⟩,.string ⟨#[97,112,112,108,105,99,97,116,105,111,110]⟩]) (.int .i64 3)).run Tryz.prog W=.ok (.string ⟨#[97,112,112,108,105,99,97,116,105,111,110]⟩) W:=by
 simp [Instr.index,asIntOf,Sem.run_bind,run_underlying Tryz.underlying107,Tryz.sizeOf9,part,run_underlying Tryz.underlying9,isAgg]
theorem kindAt_step (h:Tx) (k:Nat) (T:Tx) (hk:k=0∧T=[]∨k=1∧T=wAudio∨k=2∧T=wVideo∨k=3∧T=wApplication):kindAt h (k+1)=if h=T then (k:Int) else kindAt h k:=by
 rcases hk with ⟨rfl,rfl⟩ | ⟨rfl,rfl⟩ | ⟨rfl,rfl⟩ | ⟨rfl,rfl⟩
 · unfold kindAt
   simp
 · unfold kindAt
   by_cases e:h=wAudio
   · simp [e]
   · simp [e]
 · unfold kindAt
   by_cases e:h=wVideo
   · subst e
     simp
   · simp [e]
 · unfold kindAt
   by_cases e:h=wApplication
   · subst e
     simp
   · simp [e]
set_option maxHeartbeats 3200000 in
set_option maxRecDepth 100000 in
theorem readLine_any (base bm n:Nat) (s:ByteArray) (m:MediaS) (cs:List (CodecS×Value)) (vC vE vR vS vY:Value) (w:World) (h:MW base bm n w m cs vC vE vR vS vY) (hE:EnvR w) (hs:s.size≤281474976710656) (h0:m.kind=0) (h7:7≤base) :
 Calls Tryz.prog 22 #[.pointer (some ⟨bm,0,none⟩),.string s] w (RdO base bm n w {m with kind:=kindOf (hd (tx s)),port:=numP (hd (tl (tx s)))}):=by
 have HC1:=Lib.hid (cutc_any s w hs)
 have hbw:base≤w.heap.size:=Nat.le_trans h.hbm (Nat.le_of_lt h.box.lt)
 obtain ⟨a,ha⟩:∃a,bs (hd (tx s))=a:=⟨_,rfl⟩
 obtain ⟨b,hb⟩:∃a,bs (tl (tx s))=a:=⟨_,rfl⟩
 rw [ha,hb] at HC1
 have hbz:b.size≤281474976710656:=by
  rw [←hb,bs_size]
  have:=(cutS_len [32] (tx s)).2
  rw [tx_length] at this
  exact Nat.le_trans this hs
 have HC2:Hid (∀W,Below w.heap.size w W→Calls Tryz.prog 53 #[.string b] W fun e w'=>e=.returned (.tuple #[.string (bs (hd (tx b))),.string (bs (tl (tx b)))])∧Below W.heap.size W w'):=Lib.hid fun W _=>cutc_any b W hbz
 obtain ⟨c,hc⟩:∃a,bs (hd (tx b))=a:=⟨_,rfl⟩
 obtain ⟨d,hd'⟩:∃a,bs (tl (tx b))=a:=⟨_,rfl⟩
 rw [hc,hd'] at HC2
 have hcz:c.size≤281474976710656:=by
  rw [←hc,bs_size]
  have:=(cutS_len [32] (tx b)).1
  rw [tx_length] at this
  exact Nat.le_trans this hbz
 have HN:Hid (∀W,Below w.heap.size w W→Calls Tryz.prog 54 #[.string c] W fun e w'=>e=.returned (.int .i64 (numP (tx c)))∧Below W.heap.size W w'):=Lib.hid fun W hW=>number_any c W (hE.under hW) hcz
 have hkp:hd (tx s)=tx a:=by rw [←ha,tx_bs]
 have hnp:hd (tl (tx s))=tx c:=by rw [←hc,tx_bs,←hb,tx_bs]
 rw [hkp,hnp]
 obtain ⟨p,hp⟩:∃p,numP (tx c)=p:=⟨_,rfl⟩
 rw [hp] at HN ⊢
 obtain ⟨kd,hkd⟩:∃k,kindOf (tx a)=k:=⟨_,rfl⟩
 have HKD:=Lib.hid hkd
 rw [hkd]
 have HM:=Lib.hid h
 have HEN:=Lib.hid hE
 have HPO:Hid (∀W,Below w.heap.size w W→MW base bm n (W.setCell ⟨bm,1,none⟩ (.int .i64 p)) {m with port:=p,kind:=kindAt (tx a) 0} cs vC vE vR vS vY∧Rdt base bm w (W.setCell ⟨bm,1,none⟩ (.int .i64 p))):=Lib.hid fun W hW =>
  ⟨(HM.out.under hW).cell (m':={m with port:=p,kind:=kindAt (tx a) 0}) 1 _ (by show _=mcell _ _ _ _ _ _;unfold mcell;rw [h0];rfl) rfl rfl rfl rfl rfl HM.out.siz.mid,((Rdt.refl base bm w).under hW hbw).cell HM.out.hbm 1 _⟩
 clear h hE ha hb hbz hc hd' hcz hkp hnp hp hkd hbw h0 hs
 go_enter Tryz.func22,Tryz.ntmps22
 go_upto_region 1 with (go_at_call 53;(with_reducible refine HC1.out.mono ?_);rintro e w1 ⟨rfl,hb1⟩;have H1:=Lib.hid hb1;clear hb1;dsimp only)
 go_upto_region 2 with (go_at_call 53;(with_reducible refine (HC2.out _ H1.out).mono ?_);rintro e w2 ⟨rfl,hb2⟩;have H2:Hid (Below w.heap.size w w2):=Lib.hid (below_chain (Nat.le_refl _) H1.out hb2);clear hb2;dsimp only)
 go_upto_region 3 with (go_at_call 54;(with_reducible refine (HN.out _ H2.out).mono ?_);rintro e w3 ⟨rfl,hb3⟩;have H3:Hid (Below w.heap.size w w3):=Lib.hid (below_chain (Nat.le_refl _) H2.out hb3);clear hb3;have e0:w3.cell? ⟨bm,1,none⟩=some (.int .i64 m.port):=(HM.out.under H3.out).box.cell 1;have q0:=(HM.out.under H3.out).box.frz;dsimp only)
 have HW:=Lib.hid (HPO.out w3 H3.out)
 generalize w3.setCell ⟨bm,1,none⟩ (.int .i64 p)=w4 at *
 have HTAB:Hid (∀j v,tab4[j]? = some v→w4.cell? ((⟨1,0,none⟩:Addr).add j)=some v):=Lib.hid (HEN.out.env.low HW.out.2.low h7).tab4
 clear HC1 HC2 HN HPO H1 H2 H3
 go_wp2_with (refine wpList_load_at ?_ 107 (.global 1) ?_ _ ?_ [.string ⟨#[]⟩,.string ⟨#[97,117,100,105,111]⟩,.string ⟨#[118,105,100,101,111]⟩,.string ⟨#[97,112,112,108,105,99,97,116,105,111,110]⟩] _ HTAB.out Tryz.underlying107 ?_ Tryz.sizeFour ?_;rfl;rfl;rfl;rfl)
 go_loopw [26,8,9] (fun s26 _ _ wr=>∃k:Nat,k≤4∧s26=.int .i64 k∧(MW base bm n wr {m with port:=p,kind:=kindAt (tx a) k} cs vC vE vR vS vY∧Rdt base bm w wr)) (fun s26 _ _ _=>4 - (intOf s26).toNat)
 case atStart=>exact ⟨0,by omega,rfl,HW.out⟩
 case round =>
  obtain ⟨k,hk,rfl,hst⟩:=hrel
  have HS:=Lib.hid hst
  clear hst
  have hk4:k=0∨k=1∨k=2∨k=3∨k=4:=by omega
  rcases hk4 with rfl | rfl | rfl | rfl | rfl
  · have hix:=idx4_0
    have HST:=Lib.hid (kindAt_step (tx a) 0 [] (.inl ⟨rfl,rfl⟩))
    have HQ:Hid (a.toList.isEmpty=true↔tx a=[]):=Lib.hid (by rw [toList_tx,List.isEmpty_iff])
    obtain ⟨qb,hqb⟩:∃q,a.toList.isEmpty=q:=⟨_,rfl⟩
    rw [hqb] at HQ
    go_upto_if 32 with fail
    clear hqb
    cases qb with
    | true =>
      have HST1:Hid (kindAt (tx a) (0+1)=0):=Lib.hid (by rw [HST.out,if_pos (HQ.out.1 rfl)];rfl)
      have e0:wr.cell? ⟨bm,0,none⟩=some (.int .i64 (kindAt (tx a) 0)):=HS.out.1.box.cell 0
      have q0:=HS.out.1.box.frz
      have HX:Hid (MW base bm n (wr.setCell ⟨bm,0,none⟩ (.int .i64 0)) {m with port:=p,kind:=kindAt (tx a) (0+1)} cs vC vE vR vS vY∧Rdt base bm w (wr.setCell ⟨bm,0,none⟩ (.int .i64 0))):=Lib.hid
       ⟨HS.out.1.cell (m':={m with port:=p,kind:=kindAt (tx a) (0+1)}) 0 _ (by show _=mcell _ _ _ _ _ _;unfold mcell;rw [HST1.out];rfl) rfl rfl rfl rfl rfl HM.out.siz.mid,HS.out.2.cell HM.out.hbm 0 _⟩
      generalize kindAt (tx a) 0=k0 at *
      go_wp2
      go_roundw
      case rel=>exact ⟨0+1,by omega,by go_num,HX.out⟩
      case measure=>simp [intOf]
    | false =>
      have hne:¬tx a=[]:=fun h=>by have:=HQ.out.2 h;cases this
      have HX:Hid (MW base bm n wr {m with port:=p,kind:=kindAt (tx a) (0+1)} cs vC vE vR vS vY∧Rdt base bm w wr):=Lib.hid (by rw [HST.out,if_neg hne];exact HS.out)
      clear hne
      go_wp2
      go_roundw
      case rel=>exact ⟨0+1,by omega,by go_num,HX.out⟩
      case measure=>simp [intOf]
  · have hix:=idx4_1
    have HST:=Lib.hid (kindAt_step (tx a) 1 wAudio (.inr (.inl ⟨rfl,rfl⟩)))
    have HQ:Hid ((a.toList == [97,117,100,105,111])=true↔tx a=wAudio):=Lib.hid (by rw [beq_iff_eq,toList_tx])
    obtain ⟨qb,hqb⟩:∃q,(a.toList == [97,117,100,105,111])=q:=⟨_,rfl⟩
    rw [hqb] at HQ
    go_upto_if 32 with fail
    clear hqb
    cases qb with
    | true =>
      have HST1:Hid (kindAt (tx a) (1+1)=1):=Lib.hid (by rw [HST.out,if_pos (HQ.out.1 rfl)];rfl)
      have e0:wr.cell? ⟨bm,0,none⟩=some (.int .i64 (kindAt (tx a) 1)):=HS.out.1.box.cell 0
      have q0:=HS.out.1.box.frz
      have HX:Hid (MW base bm n (wr.setCell ⟨bm,0,none⟩ (.int .i64 1)) {m with port:=p,kind:=kindAt (tx a) (1+1)} cs vC vE vR vS vY∧Rdt base bm w (wr.setCell ⟨bm,0,none⟩ (.int .i64 1))):=Lib.hid
       ⟨HS.out.1.cell (m':={m with port:=p,kind:=kindAt (tx a) (1+1)}) 0 _ (by show _=mcell _ _ _ _ _ _;unfold mcell;rw [HST1.out];rfl) rfl rfl rfl rfl rfl HM.out.siz.mid,HS.out.2.cell HM.out.hbm 0 _⟩
      generalize kindAt (tx a) 1=k0 at *
      go_wp2
      go_roundw
      case rel=>exact ⟨1+1,by omega,by go_num,HX.out⟩
      case measure=>simp [intOf]
    | false =>
      have hne:¬tx a=wAudio:=fun h=>by have:=HQ.out.2 h;cases this
      have HX:Hid (MW base bm n wr {m with port:=p,kind:=kindAt (tx a) (1+1)} cs vC vE vR vS vY∧Rdt base bm w wr):=Lib.hid (by rw [HST.out,if_neg hne];exact HS.out)
      clear hne
      go_wp2
      go_roundw
      case rel=>exact ⟨1+1,by omega,by go_num,HX.out⟩
      case measure=>simp [intOf]
  · have hix:=idx4_2
    have HST:=Lib.hid (kindAt_step (tx a) 2 wVideo (.inr (.inr (.inl ⟨rfl,rfl⟩))))
    have HQ:Hid ((a.toList == [118,105,100,101,111])=true↔tx a=wVideo):=Lib.hid (by rw [beq_iff_eq,toList_tx])
    obtain ⟨qb,hqb⟩:∃q,(a.toList == [118,105,100,101,111])=q:=⟨_,rfl⟩
    rw [hqb] at HQ
    go_upto_if 32 with fail
    clear hqb
    cases qb with
    | true =>
      have HST1:Hid (kindAt (tx a) (2+1)=2):=Lib.hid (by rw [HST.out,if_pos (HQ.out.1 rfl)];rfl)
      have e0:wr.cell? ⟨bm,0,none⟩=some (.int .i64 (kindAt (tx a) 2)):=HS.out.1.box.cell 0
      have q0:=HS.out.1.box.frz
      have HX:Hid (MW base bm n (wr.setCell ⟨bm,0,none⟩ (.int .i64 2)) {m with port:=p,kind:=kindAt (tx a) (2+1)} cs vC vE vR vS vY∧Rdt base bm w (wr.setCell ⟨bm,0,none⟩ (.int .i64 2))):=Lib.hid
       ⟨HS.out.1.cell (m':={m with port:=p,kind:=kindAt (tx a) (2+1)}) 0 _ (by show _=mcell _ _ _ _ _ _;unfold mcell;rw [HST1.out];rfl) rfl rfl rfl rfl rfl HM.out.siz.mid,HS.out.2.cell HM.out.hbm 0 _⟩
      generalize kindAt (tx a) 2=k0 at *
      go_wp2
      go_roundw
      case rel=>exact ⟨2+1,by omega,by go_num,HX.out⟩
      case measure=>simp [intOf]
    | false =>
      have hne:¬tx a=wVideo:=fun h=>by have:=HQ.out.2 h;cases this
      have HX:Hid (MW base bm n wr {m with port:=p,kind:=kindAt (tx a) (2+1)} cs vC vE vR vS vY∧Rdt base bm w wr):=Lib.hid (by rw [HST.out,if_neg hne];exact HS.out)
      clear hne
      go_wp2
      go_roundw
      case rel=>exact ⟨2+1,by omega,by go_num,HX.out⟩
      case measure=>simp [intOf]
  · have hix:=idx4_3
    have HST:=Lib.hid (kindAt_step (tx a) 3 wApplication (.inr (.inr (.inr ⟨rfl,rfl⟩))))
    have HQ:Hid ((a.toList == [97,112,112,108,105,99,97,116,105,111,110])=true↔tx a=wApplication):=Lib.hid (by rw [beq_iff_eq,toList_tx])
    obtain ⟨qb,hqb⟩:∃q,(a.toList == [97,112,112,108,105,99,97,116,105,111,110])=q:=⟨_,rfl⟩
    rw [hqb] at HQ
    go_upto_if 32 with fail
    clear hqb
    cases qb with
    | true =>
      have HST1:Hid (kindAt (tx a) (3+1)=3):=Lib.hid (by rw [HST.out,if_pos (HQ.out.1 rfl)];rfl)
      have e0:wr.cell? ⟨bm,0,none⟩=some (.int .i64 (kindAt (tx a) 3)):=HS.out.1.box.cell 0
      have q0:=HS.out.1.box.frz
      have HX:Hid (MW base bm n (wr.setCell ⟨bm,0,none⟩ (.int .i64 3)) {m with port:=p,kind:=kindAt (tx a) (3+1)} cs vC vE vR vS vY∧Rdt base bm w (wr.setCell ⟨bm,0,none⟩ (.int .i64 3))):=Lib.hid
       ⟨HS.out.1.cell (m':={m with port:=p,kind:=kindAt (tx a) (3+1)}) 0 _ (by show _=mcell _ _ _ _ _ _;unfold mcell;rw [HST1.out];rfl) rfl rfl rfl rfl rfl HM.out.siz.mid,HS.out.2.cell HM.out.hbm 0 _⟩
      generalize kindAt (tx a) 3=k0 at *
      go_wp2
      go_roundw
      case rel=>exact ⟨3+1,by omega,by go_num,HX.out⟩
      case measure=>simp [intOf]
    | false =>
      have hne:¬tx a=wApplication:=fun h=>by have:=HQ.out.2 h;cases this
      have HX:Hid (MW base bm n wr {m with port:=p,kind:=kindAt (tx a) (3+1)} cs vC vE vR vS vY∧Rdt base bm w wr):=Lib.hid (by rw [HST.out,if_neg hne];exact HS.out)
      clear hne
      go_wp2
      go_roundw
      case rel=>exact ⟨3+1,by omega,by go_num,HX.out⟩
      case measure=>simp [intOf]
  · have HF:Hid (MW base bm n wr {m with kind:=kd,port:=p} cs vC vE vR vS vY∧Rdt base bm w wr):=Lib.hid (by
     have:=HS.out
     rw [kindAt_all,HKD.out] at this
     exact this)
    go_wp2
    go_end0
    exact ⟨rfl,⟨_,_,_,_,_,_,HF.out.1⟩,HF.out.2⟩
set_option maxHeartbeats 3200000 in
set_option maxRecDepth 100000 in
theorem readExt_any (base bm n:Nat) (s:ByteArray) (m:MediaS) (cs:List (CodecS×Value)) (vC vE vR vS vY:Value) (w:World) (h:MW base bm n w m cs vC vE vR vS vY) (hE:EnvR w) (hs:s.size≤140737488355328) (hn:n≤64) :
 Calls Tryz.prog 118 #[.pointer (some ⟨bm,0,none⟩),.string s] w (RdO base bm (n+1) w {m with exts:=m.exts++[⟨numP (hd (tx s)),bs (tl (tx s))⟩]}):=by
 have HC1:=Lib.hid (cutc_any s w (by omega))
 have hbw:base≤w.heap.size:=Nat.le_trans h.hbm (Nat.le_of_lt h.box.lt)
 obtain ⟨AE,nE0,hvE,-⟩:=Own.form h.hE
 obtain ⟨cE,hcE⟩:∃c,nE0=c:=⟨_,rfl⟩
 obtain ⟨nE,hnE⟩:∃c,(m.exts.map ecell).length=c:=⟨_,rfl⟩
 rw [hnE,hcE] at hvE
 subst hvE
 have hz1:=(cutS_len [32] (tx s)).1
 have hz2:=(cutS_len [32] (tx s)).2
 rw [tx_length] at hz1 hz2
 obtain ⟨a,ha⟩:∃a,bs (hd (tx s))=a:=⟨_,rfl⟩
 obtain ⟨b,hb⟩:∃a,bs (tl (tx s))=a:=⟨_,rfl⟩
 have haz:a.size≤140737488355328:=by rw [←ha,bs_size];exact Nat.le_trans hz1 hs
 have hbz:b.size≤140737488355328:=by rw [←hb,bs_size];exact Nat.le_trans hz2 hs
 have HBZ:=Lib.hid hbz
 have hta:hd (tx s)=tx a:=by rw [←ha,tx_bs]
 rw [ha,hb] at HC1
 rw [hb,hta]
 have HNF:Hid (∀W,EnvR W→Calls Tryz.prog 54 #[.string a] W fun e w'=>e=.returned (.int .i64 (numP (tx a)))∧Below W.heap.size W w'):=Lib.hid fun W hW=>number_any a W hW (by omega)
 obtain ⟨z,hz⟩:∃z,numP (tx a)=z:=⟨_,rfl⟩
 rw [hz] at HNF ⊢
 have HM:=Lib.hid h
 have HEN:=Lib.hid hE
 have HN64:=Lib.hid hn
 have HBW:=Lib.hid hbw
 clear h hE ha hb haz hbz hta hz hz1 hz2 hs hn hbw hnE hcE
 go_enter Tryz.func118,Tryz.ntmps118
 go_upto_region 1 with (go_at_call 53;(with_reducible refine HC1.out.mono ?_);rintro e w2 ⟨rfl,hb2⟩;have H2:Hid (MW base bm n w2 m cs vC (.slice AE nE cE) vR vS vY∧Rdt base bm w w2):=Lib.hid ⟨HM.out.under hb2,(Rdt.refl base bm w).under hb2 HBW.out⟩;have HE2:Hid (EnvR w2.drew):=Lib.hid ((HEN.out.under hb2).under (Below.refl _ _).drew);have HB2:Hid (base≤w2.heap.size):=Lib.hid (Nat.le_trans HBW.out hb2.size);clear hb2;dsimp only)
 have HNM:=Lib.hid (HNF.out w2.drew HE2.out)
 have HQ0:Hid (∀W,Ahead (TillOne (fun _=>True) (fun W=>W.cell? ⟨bm,5,none⟩=some (.slice AE nE cE)) 13) 13 W→W.cell? ⟨bm,5,none⟩=some (.slice AE nE cE)):=Lib.hid fun W h=>(TillOne.get h).2
 have HS0:Hid (∀L,(TillOne (fun _=>True) (fun W=>W.cell? ⟨bm,5,none⟩=some (.slice AE nE cE)) 13) L w2.drew):=Lib.hid fun L=>TillOne.mk trivial (H2.out.1.box.cell 5)
 refine wp_region_late (TillOne (fun _=>True) (fun W=>W.cell? ⟨bm,5,none⟩=some (.slice AE nE cE)) 13) (by as_aux_lemma=>kernel_rfl) ?_
 change wpLate Tryz.prog .any _ _ _ 14 #[false,false,false,false,false,false,false,false,false,false,false,false,false,false] _ _
 refine wpLate.take (i:=0) (q:=13) (oi:=_) (v:= ?_) rfl (by as_aux_lemma=>kernel_rfl) (by as_aux_lemma=>kernel_rfl) (by as_aux_lemma=>kernel_rfl) (by as_aux_lemma=>kernel_rfl) (by rfl) (fun _ _ _ h=>h) (TillOne.set (by decide)) (HS0.out _) (Or.inl ⟨by rfl,?_⟩) ?_
 case refine_2=>intro W hw;have e0:=HQ0.out W hw;clear hw;go_simp;(try with_reducible rfl)
 simp only [Act.put,List.setIfInBounds_toArray,List.set_cons_succ,List.set_cons_zero]
 refine wpLate.take (i:=1) (q:=13) (oi:=_) (v:= ?_) rfl (by as_aux_lemma=>kernel_rfl) (by as_aux_lemma=>kernel_rfl) (by as_aux_lemma=>kernel_rfl) (by as_aux_lemma=>kernel_rfl) (by rfl) (fun _ _ _ h=>h) (TillOne.set (by decide)) (HS0.out _) (Or.inl ⟨by rfl,?_⟩) ?_
 case refine_2=>intro W hw;have e0:=HQ0.out W hw;clear hw;go_simp;(try with_reducible rfl)
 simp only [Act.put,List.setIfInBounds_toArray,List.set_cons_succ,List.set_cons_zero]
 refine wpLate.take (i:=2) (q:=13) (oi:=_) (v:= ?_) rfl (by as_aux_lemma=>kernel_rfl) (by as_aux_lemma=>kernel_rfl) (by as_aux_lemma=>kernel_rfl) (by as_aux_lemma=>kernel_rfl) (by rfl) (fun _ _ _ h=>h) (TillOne.set (by decide)) (HS0.out _) (Or.inl ⟨by rfl,?_⟩) ?_
 case refine_2=>intro W hw;have e0:=HQ0.out W hw;clear hw;go_simp;(try with_reducible rfl)
 simp only [Act.put,List.setIfInBounds_toArray,List.set_cons_succ,List.set_cons_zero]
 refine wpLate.take (i:=3) (q:=13) (oi:=_) (v:= ?_) rfl (by as_aux_lemma=>kernel_rfl) (by as_aux_lemma=>kernel_rfl) (by as_aux_lemma=>kernel_rfl) (by as_aux_lemma=>kernel_rfl) (by rfl) (fun _ _ _ h=>h) (TillOne.set (by decide)) (HS0.out _) (Or.inl ⟨by rfl,?_⟩) ?_
 case refine_2=>intro W hw;have e0:=HQ0.out W hw;clear hw;go_simp;(try with_reducible rfl)
 simp only [Act.put,List.setIfInBounds_toArray,List.set_cons_succ,List.set_cons_zero]
 refine wpLate.take (i:=4) (q:=13) (oi:=_) (v:= ?_) rfl (by as_aux_lemma=>kernel_rfl) (by as_aux_lemma=>kernel_rfl) (by as_aux_lemma=>kernel_rfl) (by as_aux_lemma=>kernel_rfl) (by rfl) (fun _ _ _ h=>h) (TillOne.set (by decide)) (HS0.out _) (Or.inl ⟨by rfl,?_⟩) ?_
 case refine_2=>intro W hw;have e0:=HQ0.out W hw;clear hw;go_simp;(try with_reducible rfl)
 simp only [Act.put,List.setIfInBounds_toArray,List.set_cons_succ,List.set_cons_zero]
 refine wpLate.take (i:=5) (q:=13) (oi:=_) (v:= ?_) rfl (by as_aux_lemma=>kernel_rfl) (by as_aux_lemma=>kernel_rfl) (by as_aux_lemma=>kernel_rfl) (by as_aux_lemma=>kernel_rfl) (by rfl) (fun _ _ _ h=>h) (TillOne.set (by decide)) (HS0.out _) (Or.inl ⟨by rfl,?_⟩) ?_
 case refine_2=>intro W hw;have e0:=HQ0.out W hw;clear hw;go_simp;(try with_reducible rfl)
 simp only [Act.put,List.setIfInBounds_toArray,List.set_cons_succ,List.set_cons_zero]
 refine wpLate.take (i:=7) (q:=13) (oi:=_) (v:= ?_) rfl (by as_aux_lemma=>kernel_rfl) (by as_aux_lemma=>kernel_rfl) (by as_aux_lemma=>kernel_rfl) (by as_aux_lemma=>kernel_rfl) (by rfl) (fun _ _ _ h=>h) (TillOne.set (by decide)) (HS0.out _) (Or.inl ⟨by rfl,?_⟩) ?_
 case refine_2=>intro W hw;have e0:=HQ0.out W hw;clear hw;go_simp;(try with_reducible rfl)
 simp only [Act.put,List.setIfInBounds_toArray,List.set_cons_succ,List.set_cons_zero]
 refine wpLate.ready (rs:=[6]) (by as_aux_lemma=>kernel_rfl) (by simp) (eachLate.cons rfl (fun K hK=> ?_) eachLate.nil)
 go_simp
 refine HNM.out.mono ?_
 rintro e w4 ⟨rfl,hb4⟩
 have H4:=Lib.hid (H2.out.1.drew.under hb4)
 have HR4:Hid (Rdt base bm w w4):=Lib.hid ((H2.out.2.under (Below.refl _ w2).drew HB2.out).under hb4 HB2.out)
 have HB4:Hid (base≤w4.heap.size):=Lib.hid (Nat.le_trans HB2.out hb4.size)
 have HT4:Hid (∀L,(TillOne (fun _=>True) (fun W=>W.cell? ⟨bm,5,none⟩=some (.slice AE nE cE)) 13) L w4):=Lib.hid fun L=>TillOne.mk trivial (H4.out.box.cell 5)
 refine hK.out _ _ (HT4.out _) ?_
 clear hK K hb4
 try simp only [Act.put]
 refine wpLate.take (i:=8) (q:=13) (oi:=_) (v:= ?_) rfl (by as_aux_lemma=>kernel_rfl) (by as_aux_lemma=>kernel_rfl) (by as_aux_lemma=>kernel_rfl) (by as_aux_lemma=>kernel_rfl) (by rfl) (fun _ _ _ h=>h) (TillOne.set (by decide)) (HT4.out _) (Or.inl ⟨by rfl,?_⟩) ?_
 case refine_2=>intro W hw;have e0:=HQ0.out W hw;clear hw;go_simp;(try with_reducible rfl)
 simp only [Act.put,List.setIfInBounds_toArray,List.set_cons_succ,List.set_cons_zero]
 refine wpLate.ready (rs:=[9]) (by as_aux_lemma=>kernel_rfl) (by simp) (eachLate.cons rfl (fun K hK=> ?_) eachLate.nil)
 have H5:Hid (MW base bm n (w4.alloc (.cells #[.int .i64 z,.string b] 71)) m cs vC (.slice AE nE cE) vR vS vY∧Whole (w4.alloc (.cells #[.int .i64 z,.string b] 71)) w4.heap.size 71 #[.int .i64 z,.string b]∧Rdt base bm w (w4.alloc (.cells #[.int .i64 z,.string b] 71))∧base≤(w4.alloc (.cells #[.int .i64 z,.string b] 71)).heap.size):=Lib.hid ⟨H4.out.under ((Below.refl _ w4).alloc (Nat.le_refl _) _),Whole.new _ _ _,HR4.out.under ((Below.refl _ w4).alloc (Nat.le_refl _) _) HB4.out,by rw [World.size_alloc];have:=HB4.out;omega⟩
 have HT5:Hid (∀L,(TillOne (fun _=>True) (fun W=>W.cell? ⟨bm,5,none⟩=some (.slice AE nE cE)) 13) L (w4.alloc (.cells #[.int .i64 z,.string b] 71))):=Lib.hid fun L=>TillOne.mk trivial (H5.out.1.box.cell 5)
 go_simp
 refine hK.out _ _ (HT5.out _) ?_
 clear hK K
 try simp only [Act.put]
 generalize w4.alloc (.cells #[.int .i64 z,.string b] 71)=w7 at *
 generalize w4.heap.size=g7 at *
 refine wpLate.ready (rs:=[10]) (by as_aux_lemma=>kernel_rfl) (by simp) (eachLate.cons rfl (fun K hK=> ?_) eachLate.nil)
 refine step_of rfl (wp_appendE (r:=[.int .i64 z,.string b]) (.tmp 15) (.tmp 20) rfl Tryz.underlying23 Tryz.infoExt rfl (Nat.zero_lt_succ _) rfl H5.out.1.hE rfl H5.out.2.1 rfl (fun u hu=>by simp at hu;rcases hu with rfl | rfl <;> rfl) (by rw [List.length_map];have:=H5.out.1.lens.2.1;have:=HN64.out;omega) (by rw [List.length_map];have:=H5.out.1.lens.2.1;have:=HN64.out;omega) H5.out.2.2.2 ?_)
 intro v8 w8 ho8 hg8 hn8
 have H8:=Lib.hid (H5.out.1.extA (x:=⟨z,b⟩) ho8 hg8 H5.out.2.2.2 HBZ.out HN64.out)
 have hbx8:Whole w8 bm 28 (mcell m vC (.slice AE nE cE) vR vS vY):=H5.out.1.box.grown hg8 (fun e=>(H5.out.1.hE.apart H5.out.1.box (by decide)) e.symm)
 have c8:w8.cell? ⟨bm,5,none⟩=some (.slice AE nE cE):=hbx8.cell 5
 have f8:=hbx8.frz 5
 have HT8:Hid (∀L,(TillOne (fun _=>True) (fun W=>W.cell? ⟨bm,5,none⟩=some (.slice AE nE cE)) 13) L w8):=Lib.hid fun L=>TillOne.mk trivial c8
 have HS9:Hid (∀L,L.getD 13 true=true→(TillOne (fun _=>True) (fun W=>W.cell? ⟨bm,5,none⟩=some (.slice AE nE cE)) 13) L (w8.setCell ⟨bm,5,none⟩ v8)):=Lib.hid fun L hL=>TillOne.past trivial hL
 have HFIN:Hid ((∃cs vC vE vR vS vY,MW base bm (n+1) (w8.setCell ⟨bm,5,none⟩ v8) {m with exts:=m.exts++[⟨z,b⟩]} cs vC vE vR vS vY)∧Rdt base bm w (w8.setCell ⟨bm,5,none⟩ v8)):=Lib.hid ⟨⟨_,_,_,_,_,_,H8.out.1⟩,H5.out.2.2.1.trans H8.out.2⟩
 obtain ⟨A8,k8,hv8,-⟩:=ho8.form
 generalize ((m.exts.map ecell)++[[Value.int .i64 z,Value.string b]]).length=l8 at hv8
 subst hv8
 clear ho8 hg8 hn8 hbx8 H5
 refine hK.out _ _ (HT8.out _) ?_
 clear hK K
 try simp only [Act.put]
 refine wpLate.ready (rs:=[11]) (by as_aux_lemma=>kernel_rfl) (by simp) (eachLate.cons rfl (fun K hK=> ?_) eachLate.nil)
 go_simp
 refine hK.out _ _ (HT8.out _) ?_
 clear hK K
 try simp only [Act.put,List.setIfInBounds_toArray,List.set_cons_succ,List.set_cons_zero]
 refine wpLate.take (i:=12) (q:=13) (oi:=_) (v:= ?_) rfl (by as_aux_lemma=>kernel_rfl) (by as_aux_lemma=>kernel_rfl) (by as_aux_lemma=>kernel_rfl) (by as_aux_lemma=>kernel_rfl) (by rfl) (fun _ _ _ h=>h) (TillOne.set (by decide)) (HT8.out _) (Or.inl ⟨by rfl,?_⟩) ?_
 case refine_2=>intro W hw;have e0:=HQ0.out W hw;clear hw;go_simp;(try with_reducible rfl)
 simp only [Act.put,List.setIfInBounds_toArray,List.set_cons_succ,List.set_cons_zero]
 refine wpLate.ready (rs:=[13]) (by as_aux_lemma=>kernel_rfl) (by simp) (eachLate.cons rfl (fun K hK=> ?_) eachLate.nil)
 go_simp
 refine hK.out _ _ (HS9.out _ rfl) ?_
 clear hK K
 try simp only [Act.put]
 refine wpLate.done (by as_aux_lemma=>kernel_rfl) ?_ _
 go_wp2
 go_end0
 exact ⟨rfl,HFIN.out.1,HFIN.out.2⟩
theorem built_cry:∀(k0 k1 k2 k3 k4 k5 k6 k7 k8 k9 k10 k11 k12 k13 k14 k15 k16 k17 k18 k19 k20 k21 k22 k23 k24 k25 k26 k27 k28 k29 z:Int),Tryz.prog.built 75 [(0,.int .i64 z),(1,.agg #[.int .u8 k0,.int .u8 k1,.int .u8 k2,.int .u8 k3,.int .u8 k4,.int .u8 k5,.int .u8 k6,.int .u8 k7,.int .u8 k8,.int .u8 k9,.int .u8 k10,.int .u8 k11,.int .u8 k12,.int .u8 k13,.int .u8 k14,.int .u8 k15,.int .u8 k16,.int .u8 k17,.int .u8 k18,.int .u8 k19,.int .u8 k20,.int .u8 k21,.int .u8 k22,.int .u8 k23,.int .u8 k24,.int .u8 k25,.int .u8 k26,.int .u8 k27,.int .u8 k28,.int .u8 k29])]=some #[.int .i64 z,.int .u8 k0,.int .u8 k1,.int .u8 k2,.int .u8 k3,.int .u8 k4,.int .u8 k5,.int .u8 k6,.int .u8 k7,.int .u8 k8,.int .u8 k9,.int .u8 k10,.int .u8 k11,.int .u8 k12,.int .u8 k13,.int .u8 k14,.int .u8 k15,.int .u8 k16,.int .u8 k17,.int .u8 k18,.int .u8 k19,.int .u8 k20,.int .u8 k21,.int .u8 k22,.int .u8 k23,.int .u8 k24,.int .u8 k25,.int .u8 k26,.int .u8 k27,.int .u8 k28,.int .u8 k29]:=by intros;kernel_rfl
theorem build_cry (z:Int) (k:Tx) (h:k.length=30) (w:World):(Instr.build 75 #[(0,.int .i64 z),(1,.agg (keyC k).toArray)]).run Tryz.prog w=.ok (.agg (cryC ⟨z,k⟩).toArray) w:=by
 match k,h with
 | [k0,k1,k2,k3,k4,k5,k6,k7,k8,k9,k10,k11,k12,k13,k14,k15,k16,k17,k18,k19,k20,k21,k22,k23,k24,k25,k26,k27,k28,k29],_=>exact run_build w 75 _ _ (built_cry k0.toNat k1.toNat k2.toNat k3.toNat k4.toNat k5.toNat k6.toNat k7.toNat k8.toNat k9.toNat k10.toNat k11.toNat k12.toNat k13.toNat k14.toNat k15.toNat k16.toNat k17.toNat k18.toNat k19.toNat k20.toNat k21.toNat k22.toNat k23.toNat k24.toNat k25.toNat k26.toNat k27.toNat k28.toNat k29.toNat z)
theorem exec_buildTwo {a:Act} {o:Oper} {t:TypeId} {i j:Nat} {x y:Operand} (ho:o.op=.build t #[(i,x),(j,y)]) {u1 u2 v:Value} {w:World} (hx:a.eval x=u1) (hy:a.eval y=u2) (hr:(Instr.build t #[(i,u1),(j,u2)]).run Tryz.prog w=.ok v w):(execOp a.eval o).run Tryz.prog w=.ok (.value v) w:=by
 unfold execOp
 simp only [ho,Sem.run_bind,List.map_toArray,List.map_cons,List.map_nil,hx,hy,hr,Result.andThen_ok,Sem.run_pure]
set_option maxHeartbeats 6400000 in
set_option maxRecDepth 100000 in
theorem readCrypto_any (base bm n:Nat) (s:ByteArray) (m:MediaS) (cs:List (CodecS×Value)) (vC vE vR vS vY:Value) (w:World) (h:MW base bm n w m cs vC vE vR vS vY) (hE:EnvR w) (hs:s.size≤140737488355328) (hn:n≤64) :
 Calls Tryz.prog 122 #[.pointer (some ⟨bm,0,none⟩),.string s] w (RdO base bm (n+1) w {m with crypto:=m.crypto++[cryP (tx s)]}):=by
 have HC1:=Lib.hid (cutc_any s w (by omega))
 have hbw:base≤w.heap.size:=Nat.le_trans h.hbm (Nat.le_of_lt h.box.lt)
 obtain ⟨AE,nE0,hvE,-⟩:=Own.form h.hY
 obtain ⟨cE,hcE⟩:∃c,nE0=c:=⟨_,rfl⟩
 obtain ⟨nE,hnE⟩:∃c,(m.crypto.map cryC).length=c:=⟨_,rfl⟩
 rw [hnE,hcE] at hvE
 subst hvE
 obtain ⟨a,ha⟩:∃a,bs (hd (tx s))=a:=⟨_,rfl⟩
 obtain ⟨b,hb⟩:∃a,bs (tl (tx s))=a:=⟨_,rfl⟩
 have haz:a.size≤140737488355328:=by rw [←ha,bs_size];have:=(cutS_len [32] (tx s)).1;rw [tx_length] at this;exact Nat.le_trans this hs
 have hbz:b.size≤140737488355328:=by rw [←hb,bs_size];have:=(cutS_len [32] (tx s)).2;rw [tx_length] at this;exact Nat.le_trans this hs
 rw [ha,hb] at HC1
 have HC2:Hid (∀W:World,Calls Tryz.prog 53 #[.string b] W fun e w'=>e=.returned (.tuple #[.string (bs (hd (tx b))),.string (bs (tl (tx b)))])∧Below W.heap.size W w'):=Lib.hid fun W=>cutc_any b W (by omega)
 obtain ⟨b1,hb1⟩:∃a,bs (hd (tx b))=a:=⟨_,rfl⟩
 obtain ⟨c,hc⟩:∃a,bs (tl (tx b))=a:=⟨_,rfl⟩
 have hcz:c.size≤140737488355328:=by rw [←hc,bs_size];have:=(cutS_len [32] (tx b)).2;rw [tx_length] at this;exact Nat.le_trans this hbz
 rw [hb1,hc] at HC2
 have HTP:Hid (∀W:World,Calls Tryz.prog 137 #[.string c,.string ⟨#[105,110,108,105,110,101,58]⟩] W fun e w'=>e=.returned (.string (bs (Lib.trimPrefix (tx c) wInl)))∧w'=W):=Lib.hid fun W=>Tryz.strings_TrimPrefix c ⟨#[105,110,108,105,110,101,58]⟩ W
 obtain ⟨d,hd'⟩:∃a,bs (Lib.trimPrefix (tx c) wInl)=a:=⟨_,rfl⟩
 have hdz:d.size≤140737488355328:=by
  rw [←hd',bs_size]
  refine Nat.le_trans ?_ hcz
  rw [←tx_length c]
  unfold Lib.trimPrefix
  split
  · rw [List.length_drop];omega
  · exact Nat.le_refl _
 rw [hd'] at HTP
 have HRK:Hid (∀W:World,Calls Tryz.prog 170 #[.string d] W fun e w'=>e=.returned (.agg (keyC (keyP (tx d))).toArray)∧Below W.heap.size W w'):=Lib.hid fun W=>readKey_any d W (by omega)
 obtain ⟨k,hk⟩:∃k,keyP (tx d)=k:=⟨_,rfl⟩
 have HKL:Hid (k.length=30):=Lib.hid (by rw [←hk];exact keyP_len _)
 rw [hk] at HRK
 have HN1:Hid (∀W,EnvR W→Calls Tryz.prog 54 #[.string a] W fun e w'=>e=.returned (.int .i64 (numP (tx a)))∧Below W.heap.size W w'):=Lib.hid fun W hW=>number_any a W hW (by omega)
 obtain ⟨z,hz1⟩:∃z,numP (tx a)=z:=⟨_,rfl⟩
 have hco:cryP (tx s)=⟨z,k⟩:=by
  unfold cryP
  have e1:hd (tx s)=tx a:=by rw [←ha,tx_bs]
  have e2:tl (tx s)=tx b:=by rw [←hb,tx_bs]
  have e3:tl (tx b)=tx c:=by rw [←hc,tx_bs]
  have e4:Lib.trimPrefix (tx c) wInl=tx d:=by rw [←hd',tx_bs]
  rw [e1,e2,e3,e4,hz1,hk]
 rw [hz1] at HN1
 rw [hco]
 have hbd:∀W,(Instr.build 75 #[(0,.int .i64 z),(1,.agg (keyC k).toArray)]).run Tryz.prog W=.ok (.agg (cryC ⟨z,k⟩).toArray) W:=build_cry z k HKL.out
 have hsl:∀W:World,(Instr.buildSlice 26 1 #[(0,.agg (cryC ⟨z,k⟩).toArray)]).run Tryz.prog W=.ok (.slice (some ⟨W.heap.size,0,none⟩) 1 1) (W.alloc (.cells (cryC ⟨z,k⟩).toArray 75)):=slice_cry z k HKL.out
 have HYL:=Lib.hid (cryC_len (c:=⟨z,k⟩) HKL.out)
 have HYO:Hid (∀u∈cryC (⟨z,k⟩:CryptoS),u.oneCell'=true):=Lib.hid fun u hu=>List.all_eq_true.1 (cryC_one _) u hu
 obtain ⟨K0,hK0⟩:∃K,(keyC k).toArray=K:=⟨_,rfl⟩
 obtain ⟨Y,hY⟩:∃K,(cryC (⟨z,k⟩:CryptoS)).toArray=K:=⟨_,rfl⟩
 have HY:=Lib.hid hY
 rw [hK0] at HRK
 simp only [hK0,hY] at hbd hsl
 have HM:=Lib.hid h
 have HEN:=Lib.hid hE
 have HN64:=Lib.hid hn
 have HBW:=Lib.hid hbw
 clear h hE ha hb haz hbz hz1 hs hn hbw hnE hcE hco hb1 hc hcz hd' hdz hk hK0 hY
 go_enter Tryz.func122,Tryz.ntmps122
 go_upto_region 1 with (go_at_call 53;(with_reducible refine HC1.out.mono ?_);rintro e w1 ⟨rfl,hb1⟩;have H1:=Lib.hid hb1;clear hb1;dsimp only)
 go_upto_region 2 with (go_at_call 53;(with_reducible refine (HC2.out _).mono ?_);rintro e w3 ⟨rfl,hb2⟩;have HL3:=Lib.hid (below_chain (Nat.le_refl _) H1.out hb2);clear hb2;dsimp only)
 have H3:Hid (MW base bm n w3.drew m cs vC vE vR vS (.slice AE nE cE)):=Lib.hid (HM.out.under HL3.out).drew
 have HE3:Hid (EnvR w3.drew):=Lib.hid ((HEN.out.under HL3.out).under (Below.refl _ _).drew)
 have HR3:Hid (Rdt base bm w w3.drew):=Lib.hid (((Rdt.refl base bm w).under HL3.out HBW.out).under (Below.refl _ w3).drew (Nat.le_trans HBW.out HL3.out.size))
 have HB3:Hid (base≤w3.drew.heap.size):=Lib.hid (Nat.le_trans HBW.out HL3.out.size)
 clear HL3 H1 HC1 HC2 HM HEN HBW
 have HQ0:Hid (∀W,Ahead (TillOne (fun _=>True) (fun W=>W.cell? ⟨bm,9,none⟩=some (.slice AE nE cE)) 15) 15 W→W.cell? ⟨bm,9,none⟩=some (.slice AE nE cE)):=Lib.hid fun W h=>(TillOne.get h).2
 have HS0:Hid (∀L,(TillOne (fun _=>True) (fun W=>W.cell? ⟨bm,9,none⟩=some (.slice AE nE cE)) 15) L w3.drew):=Lib.hid fun L=>TillOne.mk trivial (H3.out.box.cell 9)
 refine wp_region_late (TillOne (fun _=>True) (fun W=>W.cell? ⟨bm,9,none⟩=some (.slice AE nE cE)) 15) (by as_aux_lemma=>kernel_rfl) ?_
 change wpLate Tryz.prog .any _ _ _ 16 #[false,false,false,false,false,false,false,false,false,false,false,false,false,false,false,false] _ _
 refine wpLate.take (i:=0) (q:=15) (oi:=_) (v:= ?_) rfl (by as_aux_lemma=>kernel_rfl) (by as_aux_lemma=>kernel_rfl) (by as_aux_lemma=>kernel_rfl) (by as_aux_lemma=>kernel_rfl) (by rfl) (fun _ _ _ h=>h) (TillOne.set (by decide)) (HS0.out _) (Or.inl ⟨by rfl,?_⟩) ?_
 case refine_2=>intro W hw;have e0:=HQ0.out W hw;clear hw;go_simp;(try with_reducible rfl)
 simp only [Act.put,List.setIfInBounds_toArray,List.set_cons_succ,List.set_cons_zero]
 refine wpLate.take (i:=1) (q:=15) (oi:=_) (v:= ?_) rfl (by as_aux_lemma=>kernel_rfl) (by as_aux_lemma=>kernel_rfl) (by as_aux_lemma=>kernel_rfl) (by as_aux_lemma=>kernel_rfl) (by rfl) (fun _ _ _ h=>h) (TillOne.set (by decide)) (HS0.out _) (Or.inl ⟨by rfl,?_⟩) ?_
 case refine_2=>intro W hw;have e0:=HQ0.out W hw;clear hw;go_simp;(try with_reducible rfl)
 simp only [Act.put,List.setIfInBounds_toArray,List.set_cons_succ,List.set_cons_zero]
 refine wpLate.take (i:=2) (q:=15) (oi:=_) (v:= ?_) rfl (by as_aux_lemma=>kernel_rfl) (by as_aux_lemma=>kernel_rfl) (by as_aux_lemma=>kernel_rfl) (by as_aux_lemma=>kernel_rfl) (by rfl) (fun _ _ _ h=>h) (TillOne.set (by decide)) (HS0.out _) (Or.inl ⟨by rfl,?_⟩) ?_
 case refine_2=>intro W hw;have e0:=HQ0.out W hw;clear hw;go_simp;(try with_reducible rfl)
 simp only [Act.put,List.setIfInBounds_toArray,List.set_cons_succ,List.set_cons_zero]
 refine wpLate.take (i:=3) (q:=15) (oi:=_) (v:= ?_) rfl (by as_aux_lemma=>kernel_rfl) (by as_aux_lemma=>kernel_rfl) (by as_aux_lemma=>kernel_rfl) (by as_aux_lemma=>kernel_rfl) (by rfl) (fun _ _ _ h=>h) (TillOne.set (by decide)) (HS0.out _) (Or.inl ⟨by rfl,?_⟩) ?_
 case refine_2=>intro W hw;have e0:=HQ0.out W hw;clear hw;go_simp;(try with_reducible rfl)
 simp only [Act.put,List.setIfInBounds_toArray,List.set_cons_succ,List.set_cons_zero]
 refine wpLate.take (i:=4) (q:=15) (oi:=_) (v:= ?_) rfl (by as_aux_lemma=>kernel_rfl) (by as_aux_lemma=>kernel_rfl) (by as_aux_lemma=>kernel_rfl) (by as_aux_lemma=>kernel_rfl) (by rfl) (fun _ _ _ h=>h) (TillOne.set (by decide)) (HS0.out _) (Or.inl ⟨by rfl,?_⟩) ?_
 case refine_2=>intro W hw;have e0:=HQ0.out W hw;clear hw;go_simp;(try with_reducible rfl)
 simp only [Act.put,List.setIfInBounds_toArray,List.set_cons_succ,List.set_cons_zero]
 refine wpLate.take (i:=5) (q:=15) (oi:=_) (v:= ?_) rfl (by as_aux_lemma=>kernel_rfl) (by as_aux_lemma=>kernel_rfl) (by as_aux_lemma=>kernel_rfl) (by as_aux_lemma=>kernel_rfl) (by rfl) (fun _ _ _ h=>h) (TillOne.set (by decide)) (HS0.out _) (Or.inl ⟨by rfl,?_⟩) ?_
 case refine_2=>intro W hw;have e0:=HQ0.out W hw;clear hw;go_simp;(try with_reducible rfl)
 simp only [Act.put,List.setIfInBounds_toArray,List.set_cons_succ,List.set_cons_zero]
 refine wpLate.take (i:=7) (q:=15) (oi:=_) (v:= ?_) rfl (by as_aux_lemma=>kernel_rfl) (by as_aux_lemma=>kernel_rfl) (by as_aux_lemma=>kernel_rfl) (by as_aux_lemma=>kernel_rfl) (by rfl) (fun _ _ _ h=>h) (TillOne.set (by decide)) (HS0.out _) (Or.inl ⟨by rfl,?_⟩) ?_
 case refine_2=>intro W hw;have e0:=HQ0.out W hw;clear hw;go_simp;(try with_reducible rfl)
 simp only [Act.put,List.setIfInBounds_toArray,List.set_cons_succ,List.set_cons_zero]
 refine wpLate.ready (rs:=[6]) (by as_aux_lemma=>kernel_rfl) (by simp) (eachLate.cons rfl (fun K hK=> ?_) eachLate.nil)
 go_simp
 refine (HN1.out _ HE3.out).mono ?_
 rintro e w4 ⟨rfl,hb4⟩
 have H4:=Lib.hid (H3.out.under hb4)
 have HR4:Hid (Rdt base bm w w4):=Lib.hid (HR3.out.under hb4 HB3.out)
 have HB4:Hid (base≤w4.heap.size):=Lib.hid (Nat.le_trans HB3.out hb4.size)
 have HT4:Hid (∀L,(TillOne (fun _=>True) (fun W=>W.cell? ⟨bm,9,none⟩=some (.slice AE nE cE)) 15) L w4):=Lib.hid fun L=>TillOne.mk trivial (H4.out.box.cell 9)
 refine hK.out _ _ (HT4.out _) ?_
 clear hK K hb4
 try simp only [Act.put,List.setIfInBounds_toArray,List.set_cons_succ,List.set_cons_zero]
 refine wpLate.ready (rs:=[8]) (by as_aux_lemma=>kernel_rfl) (by simp) (eachLate.cons rfl (fun K hK=> ?_) eachLate.nil)
 go_simp
 refine (HTP.out _).mono ?_
 rintro e w4' ⟨rfl,e4'⟩
 subst e4'
 refine hK.out _ _ (HT4.out _) ?_
 clear hK K
 try simp only [Act.put,List.setIfInBounds_toArray,List.set_cons_succ,List.set_cons_zero]
 refine wpLate.ready (rs:=[9]) (by as_aux_lemma=>kernel_rfl) (by simp) (eachLate.cons rfl (fun K hK=> ?_) eachLate.nil)
 go_simp
 refine (HRK.out _).mono ?_
 rintro e w5 ⟨rfl,hb5⟩
 have H5:=Lib.hid (H4.out.under hb5)
 have HR5:Hid (Rdt base bm w w5):=Lib.hid (HR4.out.under hb5 HB4.out)
 have HB5:Hid (base≤w5.heap.size):=Lib.hid (Nat.le_trans HB4.out hb5.size)
 have HT5:Hid (∀L,(TillOne (fun _=>True) (fun W=>W.cell? ⟨bm,9,none⟩=some (.slice AE nE cE)) 15) L w5):=Lib.hid fun L=>TillOne.mk trivial (H5.out.box.cell 9)
 refine hK.out _ _ (HT5.out _) ?_
 clear hK K hb5
 try simp only [Act.put,List.setIfInBounds_toArray,List.set_cons_succ,List.set_cons_zero]
 refine wpLate.take (i:=10) (q:=15) (oi:=_) (v:= ?_) rfl (by as_aux_lemma=>kernel_rfl) (by as_aux_lemma=>kernel_rfl) (by as_aux_lemma=>kernel_rfl) (by as_aux_lemma=>kernel_rfl) (by rfl) (fun _ _ _ h=>h) (TillOne.set (by decide)) (HT5.out _) (Or.inl ⟨by rfl,?_⟩) ?_
 case refine_2=>intro W hw;refine Eq.trans (exec_buildTwo (u1:=.int .i64 z) (u2:=.agg K0) (v:=.agg Y) (by rfl) (by rfl) (by rfl) (hbd W)) ?_;with_reducible rfl
 simp only [Act.put,List.setIfInBounds_toArray,List.set_cons_succ,List.set_cons_zero]
 refine wpLate.ready (rs:=[11]) (by as_aux_lemma=>kernel_rfl) (by simp) (eachLate.cons rfl (fun K hK=> ?_) eachLate.nil)
 have H6:Hid (MW base bm n (w5.alloc (.cells Y 75)) m cs vC vE vR vS (.slice AE nE cE)∧Whole (w5.alloc (.cells Y 75)) w5.heap.size 75 Y∧Rdt base bm w (w5.alloc (.cells Y 75))∧base≤(w5.alloc (.cells Y 75)).heap.size):=Lib.hid ⟨H5.out.under ((Below.refl _ w5).alloc (Nat.le_refl _) _),Whole.new _ _ _,HR5.out.under ((Below.refl _ w5).alloc (Nat.le_refl _) _) HB5.out,by rw [World.size_alloc];have:=HB5.out;omega⟩
 have HT6:Hid (∀L,(TillOne (fun _=>True) (fun W=>W.cell? ⟨bm,9,none⟩=some (.slice AE nE cE)) 15) L (w5.alloc (.cells Y 75))):=Lib.hid fun L=>TillOne.mk trivial (H6.out.1.box.cell 9)
 refine step_of rfl (wp_sliceOne (u:=.agg Y) (by rfl) (by rfl) (hsl w5) ?_)
 refine hK.out _ _ (HT6.out _) ?_
 clear hK K
 try simp only [Act.put,List.setIfInBounds_toArray,List.set_cons_succ,List.set_cons_zero]
 generalize w5.alloc (.cells Y 75)=w7 at *
 generalize w5.heap.size=g7 at *
 refine wpLate.ready (rs:=[12]) (by as_aux_lemma=>kernel_rfl) (by simp) (eachLate.cons rfl (fun K hK=> ?_) eachLate.nil)
 refine step_of rfl (wp_appendE (r:=cryC ⟨z,k⟩) (.tmp 20) (.tmp 27) rfl Tryz.underlying26 Tryz.infoCrypto rfl (Nat.zero_lt_succ _) rfl H6.out.1.hY rfl (by rw [HY.out];exact H6.out.2.1) HYL.out HYO.out (by rw [List.length_map];have:=H6.out.1.lens.2.2.2.2.1;have:=HN64.out;omega) (by rw [List.length_map];have:=H6.out.1.lens.2.2.2.2.1;have:=HN64.out;omega) H6.out.2.2.2 ?_)
 intro v8 w8 ho8 hg8 hn8
 have H8:=Lib.hid (H6.out.1.cryptoA (x:=⟨z,k⟩) ho8 hg8 H6.out.2.2.2 HKL.out HN64.out)
 have hbx8:Whole w8 bm 28 (mcell m vC vE vR vS (.slice AE nE cE)):=H6.out.1.box.grown hg8 (fun e=>(H6.out.1.hY.apart H6.out.1.box (by decide)) e.symm)
 have c8:w8.cell? ⟨bm,9,none⟩=some (.slice AE nE cE):=hbx8.cell 9
 have f8:=hbx8.frz 9
 have HT8:Hid (∀L,(TillOne (fun _=>True) (fun W=>W.cell? ⟨bm,9,none⟩=some (.slice AE nE cE)) 15) L w8):=Lib.hid fun L=>TillOne.mk trivial c8
 have HS9:Hid (∀L,L.getD 15 true=true→(TillOne (fun _=>True) (fun W=>W.cell? ⟨bm,9,none⟩=some (.slice AE nE cE)) 15) L (w8.setCell ⟨bm,9,none⟩ v8)):=Lib.hid fun L hL=>TillOne.past trivial hL
 have HFIN:Hid ((∃cs vC vE vR vS vY,MW base bm (n+1) (w8.setCell ⟨bm,9,none⟩ v8) {m with crypto:=m.crypto++[⟨z,k⟩]} cs vC vE vR vS vY)∧Rdt base bm w (w8.setCell ⟨bm,9,none⟩ v8)):=Lib.hid ⟨⟨_,_,_,_,_,_,H8.out.1⟩,H6.out.2.2.1.trans H8.out.2⟩
 obtain ⟨A8,l8,k8,hv8⟩:∃A l k,v8=.slice A l k:=by obtain ⟨A,k,h,-⟩:=ho8.form;exact ⟨_,_,_,h⟩
 subst hv8
 clear ho8 hg8 hn8 hbx8 H6
 refine hK.out _ _ (HT8.out _) ?_
 clear hK K
 try simp only [Act.put,List.setIfInBounds_toArray,List.set_cons_succ,List.set_cons_zero]
 refine wpLate.ready (rs:=[13]) (by as_aux_lemma=>kernel_rfl) (by simp) (eachLate.cons rfl (fun K hK=> ?_) eachLate.nil)
 go_simp
 refine hK.out _ _ (HT8.out _) ?_
 clear hK K
 try simp only [Act.put,List.setIfInBounds_toArray,List.set_cons_succ,List.set_cons_zero]
 refine wpLate.take (i:=14) (q:=15) (oi:=_) (v:= ?_) rfl (by as_aux_lemma=>kernel_rfl) (by as_aux_lemma=>kernel_rfl) (by as_aux_lemma=>kernel_rfl) (by as_aux_lemma=>kernel_rfl) (by rfl) (fun _ _ _ h=>h) (TillOne.set (by decide)) (HT8.out _) (Or.inl ⟨by rfl,?_⟩) ?_
 case refine_2=>intro W hw;have e0:=HQ0.out W hw;clear hw;go_simp;(try with_reducible rfl)
 simp only [Act.put,List.setIfInBounds_toArray,List.set_cons_succ,List.set_cons_zero]
 refine wpLate.ready (rs:=[15]) (by as_aux_lemma=>kernel_rfl) (by simp) (eachLate.cons rfl (fun K hK=> ?_) eachLate.nil)
 go_simp
 refine hK.out _ _ (HS9.out _ rfl) ?_
 clear hK K
 try simp only [Act.put]
 refine wpLate.done (by as_aux_lemma=>kernel_rfl) ?_ _
 go_wp2
 go_end0
 exact ⟨rfl,HFIN.out.1,HFIN.out.2⟩
set_option maxHeartbeats 6400000 in
set_option maxRecDepth 100000 in
theorem readCodec_any (base bm n:Nat) (s:ByteArray) (m:MediaS) (cs:List (CodecS×Value)) (vC vE vR vS vY:Value) (w:World) (h:MW base bm n w m cs vC vE vR vS vY) (hE:EnvR w) (hs:s.size≤140737488355328) (hn:n≤64) :
 Calls Tryz.prog 115 #[.pointer (some ⟨bm,0,none⟩),.string s] w (RdO base bm (n+1) w {m with codecs:=m.codecs++[codecOf rP (tx s)]}):=by
 have HC1:=Lib.hid (cutc_any s w (by omega))
 have hbw:base≤w.heap.size:=Nat.le_trans h.hbm (Nat.le_of_lt h.box.lt)
 obtain ⟨AE,nE0,hvE,-⟩:=Own.form h.hC
 obtain ⟨cE,hcE⟩:∃c,nE0=c:=⟨_,rfl⟩
 obtain ⟨nE,hnE⟩:∃c,(cs.map fun c=>ccell c.1 c.2).length=c:=⟨_,rfl⟩
 rw [hnE,hcE] at hvE
 subst hvE
 obtain ⟨a,ha⟩:∃a,bs (hd (tx s))=a:=⟨_,rfl⟩
 obtain ⟨b,hb⟩:∃a,bs (tl (tx s))=a:=⟨_,rfl⟩
 have haz:a.size≤140737488355328:=by rw [←ha,bs_size];have:=(cutS_len [32] (tx s)).1;rw [tx_length] at this;exact Nat.le_trans this hs
 have hbz:b.size≤140737488355328:=by rw [←hb,bs_size];have:=(cutS_len [32] (tx s)).2;rw [tx_length] at this;exact Nat.le_trans this hs
 rw [ha,hb] at HC1
 have HC2:Hid (∀W:World,Calls Tryz.prog 75 #[.string b,.string ⟨#[47]⟩] W fun e w'=>e=.returned (.tuple #[.string (bs (cutS [47] (tx b)).1),.string (bs (cutS [47] (tx b)).2.1),.bool (cutS [47] (tx b)).2.2])∧Below W.heap.size W w'):=Lib.hid fun W=>cut1_any b 47 W (by omega)
 obtain ⟨n1,hn1⟩:∃a,bs (cutS [47] (tx b)).1=a:=⟨_,rfl⟩
 obtain ⟨r1,hr1⟩:∃a,bs (cutS [47] (tx b)).2.1=a:=⟨_,rfl⟩
 have hnz:n1.size≤140737488355328:=by rw [←hn1,bs_size];have:=(cutS_len [47] (tx b)).1;rw [tx_length] at this;exact Nat.le_trans this hbz
 have hrz:r1.size≤140737488355328:=by rw [←hr1,bs_size];have:=(cutS_len [47] (tx b)).2;rw [tx_length] at this;exact Nat.le_trans this hbz
 rw [hn1,hr1] at HC2
 have HC3:Hid (∀W:World,Calls Tryz.prog 75 #[.string r1,.string ⟨#[47]⟩] W fun e w'=>e=.returned (.tuple #[.string (bs (cutS [47] (tx r1)).1),.string (bs (cutS [47] (tx r1)).2.1),.bool (cutS [47] (tx r1)).2.2])∧Below W.heap.size W w'):=Lib.hid fun W=>cut1_any r1 47 W (by omega)
 obtain ⟨n2,hn2⟩:∃a,bs (cutS [47] (tx r1)).1=a:=⟨_,rfl⟩
 obtain ⟨r2,hr2⟩:∃a,bs (cutS [47] (tx r1)).2.1=a:=⟨_,rfl⟩
 have hn2z:n2.size≤140737488355328:=by rw [←hn2,bs_size];have:=(cutS_len [47] (tx r1)).1;rw [tx_length] at this;exact Nat.le_trans this hrz
 rw [hn2,hr2] at HC3
 have HN1:Hid (∀W,EnvR W→Calls Tryz.prog 54 #[.string a] W fun e w'=>e=.returned (.int .i64 (numP (tx a)))∧Below W.heap.size W w'):=Lib.hid fun W hW=>number_any a W hW (by omega)
 have HN2:Hid (∀W,EnvR W→Calls Tryz.prog 54 #[.string n2] W fun e w'=>e=.returned (.int .i64 (numP (tx n2)))∧Below W.heap.size W w'):=Lib.hid fun W hW=>number_any n2 W hW (by omega)
 obtain ⟨z1,hz1⟩:∃z,numP (tx a)=z:=⟨_,rfl⟩
 obtain ⟨z2,hz2⟩:∃z,numP (tx n2)=z:=⟨_,rfl⟩
 obtain ⟨ch,hch⟩:∃z:Int,(if tx r2=[50] then (2:Int) else 1)=z:=⟨_,rfl⟩
 have hco:codecOf rP (tx s)=⟨z1,n1,z2,ch,⟨#[]⟩,[]⟩:=by
  show (⟨numP (hd (tx s)),bs (cutS [47] (tl (tx s))).1,numP (cutS [47] (cutS [47] (tl (tx s))).2.1).1,if (cutS [47] (cutS [47] (tl (tx s))).2.1).2.1=[50] then 2 else 1,bs [],[]⟩:CodecS)=_
  have e1:hd (tx s)=tx a:=by rw [←ha,tx_bs]
  have e2:tl (tx s)=tx b:=by rw [←hb,tx_bs]
  have e3:(cutS [47] (tx b)).2.1=tx r1:=by rw [←hr1,tx_bs]
  have e4:(cutS [47] (tx r1)).1=tx n2:=by rw [←hn2,tx_bs]
  have e5:(cutS [47] (tx r1)).2.1=tx r2:=by rw [←hr2,tx_bs]
  rw [e1,e2,e3,e4,e5,hz1,hn1,hz2,hch]
  rfl
 rw [hz1] at HN1
 rw [hz2] at HN2
 rw [hco]
 have HBZ:=Lib.hid hnz
 have HM:=Lib.hid h
 have HEN:=Lib.hid hE
 have HN64:=Lib.hid hn
 have HBW:=Lib.hid hbw
 have HQ:Hid ((r2.toList == [50])=true↔tx r2=[50]):=Lib.hid (by rw [beq_iff_eq,toList_tx])
 have HCC:=Lib.hid hch
 obtain ⟨qb,hqb⟩:∃q,(r2.toList == [50])=q:=⟨_,rfl⟩
 rw [hqb] at HQ
 obtain ⟨f1,hf1⟩:∃q,(cutS [47] (tx b)).2.2=q:=⟨_,rfl⟩
 obtain ⟨f2,hf2⟩:∃q,(cutS [47] (tx r1)).2.2=q:=⟨_,rfl⟩
 rw [hf1] at HC2
 rw [hf2] at HC3
 clear h hE ha hb haz hbz hz1 hz2 hs hn hbw hnE hcE hn1 hr1 hnz hrz hn2 hr2 hn2z hco hch hf1 hf2
 go_enter Tryz.func115,Tryz.ntmps115
 go_upto_region 1 with (go_at_call 53;(with_reducible refine HC1.out.mono ?_);rintro e w1 ⟨rfl,hb1⟩;have H1:=Lib.hid hb1;clear hb1;dsimp only)
 go_upto_region 2 with (go_at_call 75;(with_reducible refine (HC2.out _).mono ?_);rintro e w2 ⟨rfl,hb2⟩;have H2:=Lib.hid (below_chain (Nat.le_refl _) H1.out hb2);clear hb2;dsimp only)
 go_upto_region 3 with (go_at_call 75;(with_reducible refine (HC3.out _).mono ?_);rintro e w3 ⟨rfl,hb3⟩;have HL3:Hid (Below w.heap.size w w3):=Lib.hid (below_chain (Nat.le_refl _) H2.out hb3);clear hb3;dsimp only)
 have H3:Hid (MW base bm n w3.drew m cs (.slice AE nE cE) vE vR vS vY):=Lib.hid (HM.out.under HL3.out).drew
 have HE3:Hid (EnvR w3.drew):=Lib.hid ((HEN.out.under HL3.out).under (Below.refl _ _).drew)
 have HR3:Hid (Rdt base bm w w3.drew):=Lib.hid (((Rdt.refl base bm w).under HL3.out HBW.out).under (Below.refl _ w3).drew (Nat.le_trans HBW.out HL3.out.size))
 have HB3:Hid (base≤w3.drew.heap.size):=Lib.hid (Nat.le_trans HBW.out HL3.out.size)
 clear HL3 H1 H2 HC1 HC2 HC3 HM HEN HBW
 go_upto_if 30 with fail
 clear hqb
 cases qb with
 | true =>
   have HCH:Hid (ch=2):=Lib.hid (by rw [←HCC.out,if_pos (HQ.out.1 rfl)])
   clear HCC HQ
   go_upto_region 6 with fail
   have HQ0:Hid (∀W,Ahead (TillOne (fun _=>True) (fun W=>W.cell? ⟨bm,4,none⟩=some (.slice AE nE cE)) 16) 16 W→W.cell? ⟨bm,4,none⟩=some (.slice AE nE cE)):=Lib.hid fun W h=>(TillOne.get h).2
   have HS0:Hid (∀L,(TillOne (fun _=>True) (fun W=>W.cell? ⟨bm,4,none⟩=some (.slice AE nE cE)) 16) L w3.drew):=Lib.hid fun L=>TillOne.mk trivial (H3.out.box.cell 4)
   refine wp_region_late (TillOne (fun _=>True) (fun W=>W.cell? ⟨bm,4,none⟩=some (.slice AE nE cE)) 16) (by as_aux_lemma=>kernel_rfl) ?_
   change wpLate Tryz.prog .any _ _ _ 17 #[false,false,false,false,false,false,false,false,false,false,false,false,false,false,false,false,false] _ _
   refine wpLate.take (i:=0) (q:=16) (oi:=_) (v:= ?_) rfl (by as_aux_lemma=>kernel_rfl) (by as_aux_lemma=>kernel_rfl) (by as_aux_lemma=>kernel_rfl) (by as_aux_lemma=>kernel_rfl) (by rfl) (fun _ _ _ h=>h) (TillOne.set (by decide)) (HS0.out _) (Or.inl ⟨by rfl,?_⟩) ?_
   case refine_2=>intro W hw;have e0:=HQ0.out W hw;clear hw;go_simp;(try with_reducible rfl)
   simp only [Act.put,List.setIfInBounds_toArray,List.set_cons_succ,List.set_cons_zero]
   refine wpLate.take (i:=1) (q:=16) (oi:=_) (v:= ?_) rfl (by as_aux_lemma=>kernel_rfl) (by as_aux_lemma=>kernel_rfl) (by as_aux_lemma=>kernel_rfl) (by as_aux_lemma=>kernel_rfl) (by rfl) (fun _ _ _ h=>h) (TillOne.set (by decide)) (HS0.out _) (Or.inl ⟨by rfl,?_⟩) ?_
   case refine_2=>intro W hw;have e0:=HQ0.out W hw;clear hw;go_simp;(try with_reducible rfl)
   simp only [Act.put,List.setIfInBounds_toArray,List.set_cons_succ,List.set_cons_zero]
   refine wpLate.take (i:=2) (q:=16) (oi:=_) (v:= ?_) rfl (by as_aux_lemma=>kernel_rfl) (by as_aux_lemma=>kernel_rfl) (by as_aux_lemma=>kernel_rfl) (by as_aux_lemma=>kernel_rfl) (by rfl) (fun _ _ _ h=>h) (TillOne.set (by decide)) (HS0.out _) (Or.inl ⟨by rfl,?_⟩) ?_
   case refine_2=>intro W hw;have e0:=HQ0.out W hw;clear hw;go_simp;(try with_reducible rfl)
   simp only [Act.put,List.setIfInBounds_toArray,List.set_cons_succ,List.set_cons_zero]
   refine wpLate.take (i:=3) (q:=16) (oi:=_) (v:= ?_) rfl (by as_aux_lemma=>kernel_rfl) (by as_aux_lemma=>kernel_rfl) (by as_aux_lemma=>kernel_rfl) (by as_aux_lemma=>kernel_rfl) (by rfl) (fun _ _ _ h=>h) (TillOne.set (by decide)) (HS0.out _) (Or.inl ⟨by rfl,?_⟩) ?_
   case refine_2=>intro W hw;have e0:=HQ0.out W hw;clear hw;go_simp;(try with_reducible rfl)
   simp only [Act.put,List.setIfInBounds_toArray,List.set_cons_succ,List.set_cons_zero]
   refine wpLate.take (i:=4) (q:=16) (oi:=_) (v:= ?_) rfl (by as_aux_lemma=>kernel_rfl) (by as_aux_lemma=>kernel_rfl) (by as_aux_lemma=>kernel_rfl) (by as_aux_lemma=>kernel_rfl) (by rfl) (fun _ _ _ h=>h) (TillOne.set (by decide)) (HS0.out _) (Or.inl ⟨by rfl,?_⟩) ?_
   case refine_2=>intro W hw;have e0:=HQ0.out W hw;clear hw;go_simp;(try with_reducible rfl)
   simp only [Act.put,List.setIfInBounds_toArray,List.set_cons_succ,List.set_cons_zero]
   refine wpLate.take (i:=5) (q:=16) (oi:=_) (v:= ?_) rfl (by as_aux_lemma=>kernel_rfl) (by as_aux_lemma=>kernel_rfl) (by as_aux_lemma=>kernel_rfl) (by as_aux_lemma=>kernel_rfl) (by rfl) (fun _ _ _ h=>h) (TillOne.set (by decide)) (HS0.out _) (Or.inl ⟨by rfl,?_⟩) ?_
   case refine_2=>intro W hw;have e0:=HQ0.out W hw;clear hw;go_simp;(try with_reducible rfl)
   simp only [Act.put,List.setIfInBounds_toArray,List.set_cons_succ,List.set_cons_zero]
   refine wpLate.take (i:=7) (q:=16) (oi:=_) (v:= ?_) rfl (by as_aux_lemma=>kernel_rfl) (by as_aux_lemma=>kernel_rfl) (by as_aux_lemma=>kernel_rfl) (by as_aux_lemma=>kernel_rfl) (by rfl) (fun _ _ _ h=>h) (TillOne.set (by decide)) (HS0.out _) (Or.inl ⟨by rfl,?_⟩) ?_
   case refine_2=>intro W hw;have e0:=HQ0.out W hw;clear hw;go_simp;(try with_reducible rfl)
   simp only [Act.put,List.setIfInBounds_toArray,List.set_cons_succ,List.set_cons_zero]
   refine wpLate.take (i:=8) (q:=16) (oi:=_) (v:= ?_) rfl (by as_aux_lemma=>kernel_rfl) (by as_aux_lemma=>kernel_rfl) (by as_aux_lemma=>kernel_rfl) (by as_aux_lemma=>kernel_rfl) (by rfl) (fun _ _ _ h=>h) (TillOne.set (by decide)) (HS0.out _) (Or.inl ⟨by rfl,?_⟩) ?_
   case refine_2=>intro W hw;have e0:=HQ0.out W hw;clear hw;go_simp;(try with_reducible rfl)
   simp only [Act.put,List.setIfInBounds_toArray,List.set_cons_succ,List.set_cons_zero]
   refine wpLate.take (i:=10) (q:=16) (oi:=_) (v:= ?_) rfl (by as_aux_lemma=>kernel_rfl) (by as_aux_lemma=>kernel_rfl) (by as_aux_lemma=>kernel_rfl) (by as_aux_lemma=>kernel_rfl) (by rfl) (fun _ _ _ h=>h) (TillOne.set (by decide)) (HS0.out _) (Or.inl ⟨by rfl,?_⟩) ?_
   case refine_2=>intro W hw;have e0:=HQ0.out W hw;clear hw;go_simp;(try with_reducible rfl)
   simp only [Act.put,List.setIfInBounds_toArray,List.set_cons_succ,List.set_cons_zero]
   refine wpLate.ready (rs:=[6]) (by as_aux_lemma=>kernel_rfl) (by simp) (eachLate.cons rfl (fun K hK=> ?_) eachLate.nil)
   go_simp
   refine (HN1.out _ HE3.out).mono ?_
   rintro e w4 ⟨rfl,hb4⟩
   have H4:=Lib.hid (H3.out.under hb4)
   have HE4:Hid (EnvR w4):=Lib.hid (HE3.out.under hb4)
   have HR4:Hid (Rdt base bm w w4):=Lib.hid (HR3.out.under hb4 HB3.out)
   have HB4:Hid (base≤w4.heap.size):=Lib.hid (Nat.le_trans HB3.out hb4.size)
   have HT4:Hid (∀L,(TillOne (fun _=>True) (fun W=>W.cell? ⟨bm,4,none⟩=some (.slice AE nE cE)) 16) L w4):=Lib.hid fun L=>TillOne.mk trivial (H4.out.box.cell 4)
   refine hK.out _ _ (HT4.out _) ?_
   clear hK K hb4
   try simp only [Act.put,List.setIfInBounds_toArray,List.set_cons_succ,List.set_cons_zero]
   refine wpLate.ready (rs:=[9]) (by as_aux_lemma=>kernel_rfl) (by simp) (eachLate.cons rfl (fun K hK=> ?_) eachLate.nil)
   go_simp
   refine (HN2.out _ HE4.out).mono ?_
   rintro e w5 ⟨rfl,hb5⟩
   have H5:=Lib.hid (H4.out.under hb5)
   have HE5:Hid (EnvR w5):=Lib.hid (HE4.out.under hb5)
   have HR5:Hid (Rdt base bm w w5):=Lib.hid (HR4.out.under hb5 HB4.out)
   have HB5:Hid (base≤w5.heap.size):=Lib.hid (Nat.le_trans HB4.out hb5.size)
   have HT5:Hid (∀L,(TillOne (fun _=>True) (fun W=>W.cell? ⟨bm,4,none⟩=some (.slice AE nE cE)) 16) L w5):=Lib.hid fun L=>TillOne.mk trivial (H5.out.box.cell 4)
   refine hK.out _ _ (HT5.out _) ?_
   clear hK K hb5
   try simp only [Act.put,List.setIfInBounds_toArray,List.set_cons_succ,List.set_cons_zero]
   refine wpLate.take (i:=11) (q:=16) (oi:=_) (v:= ?_) rfl (by as_aux_lemma=>kernel_rfl) (by as_aux_lemma=>kernel_rfl) (by as_aux_lemma=>kernel_rfl) (by as_aux_lemma=>kernel_rfl) (by rfl) (fun _ _ _ h=>h) (TillOne.set (by decide)) (HT5.out _) (Or.inl ⟨by rfl,?_⟩) ?_
   case refine_2=>intro W hw;have e0:=HQ0.out W hw;clear hw;go_simp;(try with_reducible rfl)
   simp only [Act.put,List.setIfInBounds_toArray,List.set_cons_succ,List.set_cons_zero]
   refine wpLate.ready (rs:=[12]) (by as_aux_lemma=>kernel_rfl) (by simp) (eachLate.cons rfl (fun K hK=> ?_) eachLate.nil)
   have H6:Hid (MW base bm n (w5.alloc (.cells #[.int .i64 z1,.string n1,.int .i64 z2,.int .i64 2,.string ⟨#[]⟩,.slice none 0 0] 31)) m cs (.slice AE nE cE) vE vR vS vY∧Whole (w5.alloc (.cells #[.int .i64 z1,.string n1,.int .i64 z2,.int .i64 2,.string ⟨#[]⟩,.slice none 0 0] 31)) w5.heap.size 31 #[.int .i64 z1,.string n1,.int .i64 z2,.int .i64 2,.string ⟨#[]⟩,.slice none 0 0]∧Rdt base bm w (w5.alloc (.cells #[.int .i64 z1,.string n1,.int .i64 z2,.int .i64 2,.string ⟨#[]⟩,.slice none 0 0] 31))∧base≤(w5.alloc (.cells #[.int .i64 z1,.string n1,.int .i64 z2,.int .i64 2,.string ⟨#[]⟩,.slice none 0 0] 31)).heap.size):=Lib.hid ⟨H5.out.under ((Below.refl _ w5).alloc (Nat.le_refl _) _),Whole.new _ _ _,HR5.out.under ((Below.refl _ w5).alloc (Nat.le_refl _) _) HB5.out,by rw [World.size_alloc];have:=HB5.out;omega⟩
   have HT6:Hid (∀L,(TillOne (fun _=>True) (fun W=>W.cell? ⟨bm,4,none⟩=some (.slice AE nE cE)) 16) L (w5.alloc (.cells #[.int .i64 z1,.string n1,.int .i64 z2,.int .i64 2,.string ⟨#[]⟩,.slice none 0 0] 31))):=Lib.hid fun L=>TillOne.mk trivial (H6.out.1.box.cell 4)
   go_simp
   refine hK.out _ _ (HT6.out _) ?_
   clear hK K
   try simp only [Act.put,List.setIfInBounds_toArray,List.set_cons_succ,List.set_cons_zero]
   generalize w5.alloc (.cells #[.int .i64 z1,.string n1,.int .i64 z2,.int .i64 2,.string ⟨#[]⟩,.slice none 0 0] 31)=w7 at *
   generalize w5.heap.size=g7 at *
   refine wpLate.ready (rs:=[13]) (by as_aux_lemma=>kernel_rfl) (by simp) (eachLate.cons rfl (fun K hK=> ?_) eachLate.nil)
   refine step_of rfl (wp_appendE (r:=[.int .i64 z1,.string n1,.int .i64 z2,.int .i64 2,.string ⟨#[]⟩,.slice none 0 0]) (.tmp 35) (.tmp 43) rfl Tryz.underlying22 Tryz.infoCodec rfl (Nat.zero_lt_succ _) rfl H6.out.1.hC rfl H6.out.2.1 rfl (fun u hu=>by simp at hu;rcases hu with rfl | rfl | rfl | rfl | rfl | rfl <;> rfl) (by have:=H6.out.1.lens.1;rw [H6.out.1.eqC] at this;rw [List.length_map] at this ⊢;have:=HN64.out;omega) (by have:=H6.out.1.lens.1;rw [H6.out.1.eqC] at this;rw [List.length_map] at this ⊢;have:=HN64.out;omega) H6.out.2.2.2 ?_)
   intro v8 w8 ho8 hg8 hn8
   have H8:=Lib.hid (H6.out.1.codecsA (x:=⟨z1,n1,z2,2,⟨#[]⟩,[]⟩) ho8 hg8 H6.out.2.2.2 rfl ⟨HBZ.out,Nat.zero_le _⟩ HN64.out)
   have hbx8:Whole w8 bm 28 (mcell m (.slice AE nE cE) vE vR vS vY):=H6.out.1.box.grown hg8 (fun e=>(H6.out.1.hC.apart H6.out.1.box (by decide)) e.symm)
   have c8:w8.cell? ⟨bm,4,none⟩=some (.slice AE nE cE):=hbx8.cell 4
   have f8:=hbx8.frz 4
   have HT8:Hid (∀L,(TillOne (fun _=>True) (fun W=>W.cell? ⟨bm,4,none⟩=some (.slice AE nE cE)) 16) L w8):=Lib.hid fun L=>TillOne.mk trivial c8
   have HS9:Hid (∀L,L.getD 16 true=true→(TillOne (fun _=>True) (fun W=>W.cell? ⟨bm,4,none⟩=some (.slice AE nE cE)) 16) L (w8.setCell ⟨bm,4,none⟩ v8)):=Lib.hid fun L hL=>TillOne.past trivial hL
   have HFIN:Hid ((∃cs vC vE vR vS vY,MW base bm (n+1) (w8.setCell ⟨bm,4,none⟩ v8) {m with codecs:=m.codecs++[⟨z1,n1,z2,2,⟨#[]⟩,[]⟩]} cs vC vE vR vS vY)∧Rdt base bm w (w8.setCell ⟨bm,4,none⟩ v8)):=Lib.hid ⟨⟨_,_,_,_,_,_,H8.out.1⟩,H6.out.2.2.1.trans H8.out.2⟩
   obtain ⟨A8,l8,k8,hv8⟩:∃A l k,v8=.slice A l k:=by obtain ⟨A,k,h,-⟩:=ho8.form;exact ⟨_,_,_,h⟩
   subst hv8
   clear ho8 hg8 hn8 hbx8 H6
   refine hK.out _ _ (HT8.out _) ?_
   clear hK K
   try simp only [Act.put,List.setIfInBounds_toArray,List.set_cons_succ,List.set_cons_zero]
   refine wpLate.ready (rs:=[14]) (by as_aux_lemma=>kernel_rfl) (by simp) (eachLate.cons rfl (fun K hK=> ?_) eachLate.nil)
   go_simp
   refine hK.out _ _ (HT8.out _) ?_
   clear hK K
   try simp only [Act.put,List.setIfInBounds_toArray,List.set_cons_succ,List.set_cons_zero]
   refine wpLate.take (i:=15) (q:=16) (oi:=_) (v:= ?_) rfl (by as_aux_lemma=>kernel_rfl) (by as_aux_lemma=>kernel_rfl) (by as_aux_lemma=>kernel_rfl) (by as_aux_lemma=>kernel_rfl) (by rfl) (fun _ _ _ h=>h) (TillOne.set (by decide)) (HT8.out _) (Or.inl ⟨by rfl,?_⟩) ?_
   case refine_2=>intro W hw;have e0:=HQ0.out W hw;clear hw;go_simp;(try with_reducible rfl)
   simp only [Act.put,List.setIfInBounds_toArray,List.set_cons_succ,List.set_cons_zero]
   refine wpLate.ready (rs:=[16]) (by as_aux_lemma=>kernel_rfl) (by simp) (eachLate.cons rfl (fun K hK=> ?_) eachLate.nil)
   go_simp
   refine hK.out _ _ (HS9.out _ rfl) ?_
   clear hK K
   try simp only [Act.put]
   refine wpLate.done (by as_aux_lemma=>kernel_rfl) ?_ _
   go_wp2
   go_end0
   rw [HCH.out]
   exact ⟨rfl,HFIN.out.1,HFIN.out.2⟩
 | false =>
   have HCH:Hid (ch=1):=Lib.hid (by rw [←HCC.out,if_neg (fun h=>by have:=HQ.out.2 h;cases this)])
   clear HCC HQ
   go_upto_region 6 with fail
   have HQ0:Hid (∀W,Ahead (TillOne (fun _=>True) (fun W=>W.cell? ⟨bm,4,none⟩=some (.slice AE nE cE)) 16) 16 W→W.cell? ⟨bm,4,none⟩=some (.slice AE nE cE)):=Lib.hid fun W h=>(TillOne.get h).2
   have HS0:Hid (∀L,(TillOne (fun _=>True) (fun W=>W.cell? ⟨bm,4,none⟩=some (.slice AE nE cE)) 16) L w3.drew):=Lib.hid fun L=>TillOne.mk trivial (H3.out.box.cell 4)
   refine wp_region_late (TillOne (fun _=>True) (fun W=>W.cell? ⟨bm,4,none⟩=some (.slice AE nE cE)) 16) (by as_aux_lemma=>kernel_rfl) ?_
   change wpLate Tryz.prog .any _ _ _ 17 #[false,false,false,false,false,false,false,false,false,false,false,false,false,false,false,false,false] _ _
   refine wpLate.take (i:=0) (q:=16) (oi:=_) (v:= ?_) rfl (by as_aux_lemma=>kernel_rfl) (by as_aux_lemma=>kernel_rfl) (by as_aux_lemma=>kernel_rfl) (by as_aux_lemma=>kernel_rfl) (by rfl) (fun _ _ _ h=>h) (TillOne.set (by decide)) (HS0.out _) (Or.inl ⟨by rfl,?_⟩) ?_
   case refine_2=>intro W hw;have e0:=HQ0.out W hw;clear hw;go_simp;(try with_reducible rfl)
   simp only [Act.put,List.setIfInBounds_toArray,List.set_cons_succ,List.set_cons_zero]
   refine wpLate.take (i:=1) (q:=16) (oi:=_) (v:= ?_) rfl (by as_aux_lemma=>kernel_rfl) (by as_aux_lemma=>kernel_rfl) (by as_aux_lemma=>kernel_rfl) (by as_aux_lemma=>kernel_rfl) (by rfl) (fun _ _ _ h=>h) (TillOne.set (by decide)) (HS0.out _) (Or.inl ⟨by rfl,?_⟩) ?_
   case refine_2=>intro W hw;have e0:=HQ0.out W hw;clear hw;go_simp;(try with_reducible rfl)
   simp only [Act.put,List.setIfInBounds_toArray,List.set_cons_succ,List.set_cons_zero]
   refine wpLate.take (i:=2) (q:=16) (oi:=_) (v:= ?_) rfl (by as_aux_lemma=>kernel_rfl) (by as_aux_lemma=>kernel_rfl) (by as_aux_lemma=>kernel_rfl) (by as_aux_lemma=>kernel_rfl) (by rfl) (fun _ _ _ h=>h) (TillOne.set (by decide)) (HS0.out _) (Or.inl ⟨by rfl,?_⟩) ?_
   case refine_2=>intro W hw;have e0:=HQ0.out W hw;clear hw;go_simp;(try with_reducible rfl)
   simp only [Act.put,List.setIfInBounds_toArray,List.set_cons_succ,List.set_cons_zero]
   refine wpLate.take (i:=3) (q:=16) (oi:=_) (v:= ?_) rfl (by as_aux_lemma=>kernel_rfl) (by as_aux_lemma=>kernel_rfl) (by as_aux_lemma=>kernel_rfl) (by as_aux_lemma=>kernel_rfl) (by rfl) (fun _ _ _ h=>h) (TillOne.set (by decide)) (HS0.out _) (Or.inl ⟨by rfl,?_⟩) ?_
   case refine_2=>intro W hw;have e0:=HQ0.out W hw;clear hw;go_simp;(try with_reducible rfl)
   simp only [Act.put,List.setIfInBounds_toArray,List.set_cons_succ,List.set_cons_zero]
   refine wpLate.take (i:=4) (q:=16) (oi:=_) (v:= ?_) rfl (by as_aux_lemma=>kernel_rfl) (by as_aux_lemma=>kernel_rfl) (by as_aux_lemma=>kernel_rfl) (by as_aux_lemma=>kernel_rfl) (by rfl) (fun _ _ _ h=>h) (TillOne.set (by decide)) (HS0.out _) (Or.inl ⟨by rfl,?_⟩) ?_
   case refine_2=>intro W hw;have e0:=HQ0.out W hw;clear hw;go_simp;(try with_reducible rfl)
   simp only [Act.put,List.setIfInBounds_toArray,List.set_cons_succ,List.set_cons_zero]
   refine wpLate.take (i:=5) (q:=16) (oi:=_) (v:= ?_) rfl (by as_aux_lemma=>kernel_rfl) (by as_aux_lemma=>kernel_rfl) (by as_aux_lemma=>kernel_rfl) (by as_aux_lemma=>kernel_rfl) (by rfl) (fun _ _ _ h=>h) (TillOne.set (by decide)) (HS0.out _) (Or.inl ⟨by rfl,?_⟩) ?_
   case refine_2=>intro W hw;have e0:=HQ0.out W hw;clear hw;go_simp;(try with_reducible rfl)
   simp only [Act.put,List.setIfInBounds_toArray,List.set_cons_succ,List.set_cons_zero]
   refine wpLate.take (i:=7) (q:=16) (oi:=_) (v:= ?_) rfl (by as_aux_lemma=>kernel_rfl) (by as_aux_lemma=>kernel_rfl) (by as_aux_lemma=>kernel_rfl) (by as_aux_lemma=>kernel_rfl) (by rfl) (fun _ _ _ h=>h) (TillOne.set (by decide)) (HS0.out _) (Or.inl ⟨by rfl,?_⟩) ?_
   case refine_2=>intro W hw;have e0:=HQ0.out W hw;clear hw;go_simp;(try with_reducible rfl)
   simp only [Act.put,List.setIfInBounds_toArray,List.set_cons_succ,List.set_cons_zero]
   refine wpLate.take (i:=8) (q:=16) (oi:=_) (v:= ?_) rfl (by as_aux_lemma=>kernel_rfl) (by as_aux_lemma=>kernel_rfl) (by as_aux_lemma=>kernel_rfl) (by as_aux_lemma=>kernel_rfl) (by rfl) (fun _ _ _ h=>h) (TillOne.set (by decide)) (HS0.out _) (Or.inl ⟨by rfl,?_⟩) ?_
   case refine_2=>intro W hw;have e0:=HQ0.out W hw;clear hw;go_simp;(try with_reducible rfl)
   simp only [Act.put,List.setIfInBounds_toArray,List.set_cons_succ,List.set_cons_zero]
   refine wpLate.take (i:=10) (q:=16) (oi:=_) (v:= ?_) rfl (by as_aux_lemma=>kernel_rfl) (by as_aux_lemma=>kernel_rfl) (by as_aux_lemma=>kernel_rfl) (by as_aux_lemma=>kernel_rfl) (by rfl) (fun _ _ _ h=>h) (TillOne.set (by decide)) (HS0.out _) (Or.inl ⟨by rfl,?_⟩) ?_
   case refine_2=>intro W hw;have e0:=HQ0.out W hw;clear hw;go_simp;(try with_reducible rfl)
   simp only [Act.put,List.setIfInBounds_toArray,List.set_cons_succ,List.set_cons_zero]
   refine wpLate.ready (rs:=[6]) (by as_aux_lemma=>kernel_rfl) (by simp) (eachLate.cons rfl (fun K hK=> ?_) eachLate.nil)
   go_simp
   refine (HN1.out _ HE3.out).mono ?_
   rintro e w4 ⟨rfl,hb4⟩
   have H4:=Lib.hid (H3.out.under hb4)
   have HE4:Hid (EnvR w4):=Lib.hid (HE3.out.under hb4)
   have HR4:Hid (Rdt base bm w w4):=Lib.hid (HR3.out.under hb4 HB3.out)
   have HB4:Hid (base≤w4.heap.size):=Lib.hid (Nat.le_trans HB3.out hb4.size)
   have HT4:Hid (∀L,(TillOne (fun _=>True) (fun W=>W.cell? ⟨bm,4,none⟩=some (.slice AE nE cE)) 16) L w4):=Lib.hid fun L=>TillOne.mk trivial (H4.out.box.cell 4)
   refine hK.out _ _ (HT4.out _) ?_
   clear hK K hb4
   try simp only [Act.put,List.setIfInBounds_toArray,List.set_cons_succ,List.set_cons_zero]
   refine wpLate.ready (rs:=[9]) (by as_aux_lemma=>kernel_rfl) (by simp) (eachLate.cons rfl (fun K hK=> ?_) eachLate.nil)
   go_simp
   refine (HN2.out _ HE4.out).mono ?_
   rintro e w5 ⟨rfl,hb5⟩
   have H5:=Lib.hid (H4.out.under hb5)
   have HE5:Hid (EnvR w5):=Lib.hid (HE4.out.under hb5)
   have HR5:Hid (Rdt base bm w w5):=Lib.hid (HR4.out.under hb5 HB4.out)
   have HB5:Hid (base≤w5.heap.size):=Lib.hid (Nat.le_trans HB4.out hb5.size)
   have HT5:Hid (∀L,(TillOne (fun _=>True) (fun W=>W.cell? ⟨bm,4,none⟩=some (.slice AE nE cE)) 16) L w5):=Lib.hid fun L=>TillOne.mk trivial (H5.out.box.cell 4)
   refine hK.out _ _ (HT5.out _) ?_
   clear hK K hb5
   try simp only [Act.put,List.setIfInBounds_toArray,List.set_cons_succ,List.set_cons_zero]
   refine wpLate.take (i:=11) (q:=16) (oi:=_) (v:= ?_) rfl (by as_aux_lemma=>kernel_rfl) (by as_aux_lemma=>kernel_rfl) (by as_aux_lemma=>kernel_rfl) (by as_aux_lemma=>kernel_rfl) (by rfl) (fun _ _ _ h=>h) (TillOne.set (by decide)) (HT5.out _) (Or.inl ⟨by rfl,?_⟩) ?_
   case refine_2=>intro W hw;have e0:=HQ0.out W hw;clear hw;go_simp;(try with_reducible rfl)
   simp only [Act.put,List.setIfInBounds_toArray,List.set_cons_succ,List.set_cons_zero]
   refine wpLate.ready (rs:=[12]) (by as_aux_lemma=>kernel_rfl) (by simp) (eachLate.cons rfl (fun K hK=> ?_) eachLate.nil)
   have H6:Hid (MW base bm n (w5.alloc (.cells #[.int .i64 z1,.string n1,.int .i64 z2,.int .i64 1,.string ⟨#[]⟩,.slice none 0 0] 31)) m cs (.slice AE nE cE) vE vR vS vY∧Whole (w5.alloc (.cells #[.int .i64 z1,.string n1,.int .i64 z2,.int .i64 1,.string ⟨#[]⟩,.slice none 0 0] 31)) w5.heap.size 31 #[.int .i64 z1,.string n1,.int .i64 z2,.int .i64 1,.string ⟨#[]⟩,.slice none 0 0]∧Rdt base bm w (w5.alloc (.cells #[.int .i64 z1,.string n1,.int .i64 z2,.int .i64 1,.string ⟨#[]⟩,.slice none 0 0] 31))∧base≤(w5.alloc (.cells #[.int .i64 z1,.string n1,.int .i64 z2,.int .i64 1,.string ⟨#[]⟩,.slice none 0 0] 31)).heap.size):=Lib.hid ⟨H5.out.under ((Below.refl _ w5).alloc (Nat.le_refl _) _),Whole.new _ _ _,HR5.out.under ((Below.refl _ w5).alloc (Nat.le_refl _) _) HB5.out,by rw [World.size_alloc];have:=HB5.out;omega⟩
   have HT6:Hid (∀L,(TillOne (fun _=>True) (fun W=>W.cell? ⟨bm,4,none⟩=some (.slice AE nE cE)) 16) L (w5.alloc (.cells #[.int .i64 z1,.string n1,.int .i64 z2,.int .i64 1,.string ⟨#[]⟩,.slice none 0 0] 31))):=Lib.hid fun L=>TillOne.mk trivial (H6.out.1.box.cell 4)
   go_simp
   refine hK.out _ _ (HT6.out _) ?_
   clear hK K
   try simp only [Act.put,List.setIfInBounds_toArray,List.set_cons_succ,List.set_cons_zero]
   generalize w5.alloc (.cells #[.int .i64 z1,.string n1,.int .i64 z2,.int .i64 1,.string ⟨#[]⟩,.slice none 0 0] 31)=w7 at *
   generalize w5.heap.size=g7 at *
   refine wpLate.ready (rs:=[13]) (by as_aux_lemma=>kernel_rfl) (by simp) (eachLate.cons rfl (fun K hK=> ?_) eachLate.nil)
   refine step_of rfl (wp_appendE (r:=[.int .i64 z1,.string n1,.int .i64 z2,.int .i64 1,.string ⟨#[]⟩,.slice none 0 0]) (.tmp 35) (.tmp 43) rfl Tryz.underlying22 Tryz.infoCodec rfl (Nat.zero_lt_succ _) rfl H6.out.1.hC rfl H6.out.2.1 rfl (fun u hu=>by simp at hu;rcases hu with rfl | rfl | rfl | rfl | rfl | rfl <;> rfl) (by have:=H6.out.1.lens.1;rw [H6.out.1.eqC] at this;rw [List.length_map] at this ⊢;have:=HN64.out;omega) (by have:=H6.out.1.lens.1;rw [H6.out.1.eqC] at this;rw [List.length_map] at this ⊢;have:=HN64.out;omega) H6.out.2.2.2 ?_)
   intro v8 w8 ho8 hg8 hn8
   have H8:=Lib.hid (H6.out.1.codecsA (x:=⟨z1,n1,z2,1,⟨#[]⟩,[]⟩) ho8 hg8 H6.out.2.2.2 rfl ⟨HBZ.out,Nat.zero_le _⟩ HN64.out)
   have hbx8:Whole w8 bm 28 (mcell m (.slice AE nE cE) vE vR vS vY):=H6.out.1.box.grown hg8 (fun e=>(H6.out.1.hC.apart H6.out.1.box (by decide)) e.symm)
   have c8:w8.cell? ⟨bm,4,none⟩=some (.slice AE nE cE):=hbx8.cell 4
   have f8:=hbx8.frz 4
   have HT8:Hid (∀L,(TillOne (fun _=>True) (fun W=>W.cell? ⟨bm,4,none⟩=some (.slice AE nE cE)) 16) L w8):=Lib.hid fun L=>TillOne.mk trivial c8
   have HS9:Hid (∀L,L.getD 16 true=true→(TillOne (fun _=>True) (fun W=>W.cell? ⟨bm,4,none⟩=some (.slice AE nE cE)) 16) L (w8.setCell ⟨bm,4,none⟩ v8)):=Lib.hid fun L hL=>TillOne.past trivial hL
   have HFIN:Hid ((∃cs vC vE vR vS vY,MW base bm (n+1) (w8.setCell ⟨bm,4,none⟩ v8) {m with codecs:=m.codecs++[⟨z1,n1,z2,1,⟨#[]⟩,[]⟩]} cs vC vE vR vS vY)∧Rdt base bm w (w8.setCell ⟨bm,4,none⟩ v8)):=Lib.hid ⟨⟨_,_,_,_,_,_,H8.out.1⟩,H6.out.2.2.1.trans H8.out.2⟩
   obtain ⟨A8,l8,k8,hv8⟩:∃A l k,v8=.slice A l k:=by obtain ⟨A,k,h,-⟩:=ho8.form;exact ⟨_,_,_,h⟩
   subst hv8
   clear ho8 hg8 hn8 hbx8 H6
   refine hK.out _ _ (HT8.out _) ?_
   clear hK K
   try simp only [Act.put,List.setIfInBounds_toArray,List.set_cons_succ,List.set_cons_zero]
   refine wpLate.ready (rs:=[14]) (by as_aux_lemma=>kernel_rfl) (by simp) (eachLate.cons rfl (fun K hK=> ?_) eachLate.nil)
   go_simp
   refine hK.out _ _ (HT8.out _) ?_
   clear hK K
   try simp only [Act.put,List.setIfInBounds_toArray,List.set_cons_succ,List.set_cons_zero]
   refine wpLate.take (i:=15) (q:=16) (oi:=_) (v:= ?_) rfl (by as_aux_lemma=>kernel_rfl) (by as_aux_lemma=>kernel_rfl) (by as_aux_lemma=>kernel_rfl) (by as_aux_lemma=>kernel_rfl) (by rfl) (fun _ _ _ h=>h) (TillOne.set (by decide)) (HT8.out _) (Or.inl ⟨by rfl,?_⟩) ?_
   case refine_2=>intro W hw;have e0:=HQ0.out W hw;clear hw;go_simp;(try with_reducible rfl)
   simp only [Act.put,List.setIfInBounds_toArray,List.set_cons_succ,List.set_cons_zero]
   refine wpLate.ready (rs:=[16]) (by as_aux_lemma=>kernel_rfl) (by simp) (eachLate.cons rfl (fun K hK=> ?_) eachLate.nil)
   go_simp
   refine hK.out _ _ (HS9.out _ rfl) ?_
   clear hK K
   try simp only [Act.put]
   refine wpLate.done (by as_aux_lemma=>kernel_rfl) ?_ _
   go_wp2
   go_end0
   rw [HCH.out]
   exact ⟨rfl,HFIN.out.1,HFIN.out.2⟩
set_option maxHeartbeats 1600000 in
set_option maxRecDepth 100000 in
theorem readSource_any (base bm n:Nat) (s:ByteArray) (m:MediaS) (cs:List (CodecS×Value)) (vC vE vR vS vY:Value) (w:World) (h:MW base bm n w m cs vC vE vR vS vY) (hE:EnvR w) (hs:s.size≤140737488355328) (hn:n≤64) :
 Calls Tryz.prog 121 #[.pointer (some ⟨bm,0,none⟩),.string s] w (RdO base bm (n+1) w {m with sources:=m.sources++[srcP (tx s)]}):=by
 have HPU:=Lib.hid (parseU_any s w hE (by omega))
 have hbw:base≤w.heap.size:=Nat.le_trans h.hbm (Nat.le_of_lt h.box.lt)
 have hlt:=srcP_lt (tx s)
 obtain ⟨AE,nE0,hvE,-⟩:=Own.form h.hS
 obtain ⟨cE,hcE⟩:∃c,nE0=c:=⟨_,rfl⟩
 obtain ⟨nE,hnE⟩:∃c,(m.sources.map ucell).length=c:=⟨_,rfl⟩
 rw [hnE,hcE] at hvE
 subst hvE
 generalize srcP (tx s)=q at *
 have hq:IntKind.u32.wrap (q:Int)=q:=by
  unfold IntKind.wrap
  simp [IntKind.bits,IntKind.signed]
  omega
 have HM:=Lib.hid h
 have HN64:=Lib.hid hn
 have HBW:=Lib.hid hbw
 have HLT:=Lib.hid hlt
 clear h hE hs hn hbw hlt hnE hcE
 go_enter Tryz.func121,Tryz.ntmps121
 go_upto_region 1 with (go_at_call 169;(with_reducible refine HPU.out.mono ?_);rintro e w1 ⟨⟨er,rfl⟩,hb1⟩;have H1:=Lib.hid hb1;clear hb1;dsimp only)
 have HM1:=Lib.hid (HM.out.under H1.out)
 have HR1:Hid (Rdt base bm w w1):=Lib.hid ((Rdt.refl base bm w).under H1.out HBW.out)
 have HB1:Hid (base≤w1.heap.size):=Lib.hid (Nat.le_trans HBW.out H1.out.size)
 have HA:Hid (MW base bm n (w1.alloc (.cells #[.int .u32 q] 72)) m cs vC vE vR (.slice AE nE cE) vY∧Whole (w1.alloc (.cells #[.int .u32 q] 72)) w1.heap.size 72 #[.int .u32 q]∧Rdt base bm w (w1.alloc (.cells #[.int .u32 q] 72))∧base≤(w1.alloc (.cells #[.int .u32 q] 72)).heap.size):=Lib.hid
  ⟨HM1.out.under ((Below.refl _ w1).alloc (Nat.le_refl _) _),Whole.new _ _ _,HR1.out.under ((Below.refl _ w1).alloc (Nat.le_refl _) _) HB1.out,by rw [World.size_alloc];have:=HB1.out;omega⟩
 have e1:w1.cell? ⟨bm,8,none⟩=some (.slice AE nE cE):=HM1.out.box.cell 8
 go_wp2_with (at_builtin;refine wpList_appendE (r:=[.int .u32 q]) rfl (.tmp 15) (.tmp 18) rfl Tryz.underlying25 Tryz.infoU32 rfl (Nat.zero_lt_succ _) rfl HA.out.1.hS rfl HA.out.2.1 rfl (fun u hu=>by simp at hu;subst hu;rfl) (by rw [List.length_map];have:=HA.out.1.lens.2.2.2.1;have:=HN64.out;omega) (by rw [List.length_map];have:=HA.out.1.lens.2.2.2.1;have:=HN64.out;omega) HA.out.2.2.2 ?_
              intro v8 w8 ho8 hg8 hn8
              have H8:=Lib.hid (HA.out.1.sourcesA (x:=q) ho8 hg8 HA.out.2.2.2 HLT.out HN64.out)
              have hbx8:Whole w8 bm 28 (mcell m vC vE vR (.slice AE nE cE) vY):=HA.out.1.box.grown hg8 (fun e=>(HA.out.1.hS.apart HA.out.1.box (by decide)) e.symm)
              have c8:w8.cell? ⟨bm,8,none⟩=some (.slice AE nE cE):=hbx8.cell 8
              have f8:=hbx8.frz 8
              have HFIN:Hid ((∃cs vC vE vR vS vY,MW base bm (n+1) (w8.setCell ⟨bm,8,none⟩ v8) {m with sources:=m.sources++[q]} cs vC vE vR vS vY)∧Rdt base bm w (w8.setCell ⟨bm,8,none⟩ v8)):=Lib.hid ⟨⟨_,_,_,_,_,_,H8.out.1⟩,HA.out.2.2.1.trans H8.out.2⟩
              obtain ⟨A8,l8,k8,hv8⟩:∃A l k,v8=.slice A l k:=by obtain ⟨A,k,h,-⟩:=ho8.form;exact ⟨_,_,_,h⟩
              subst hv8
              clear ho8 hg8 hn8 hbx8 e1)
 go_end0
 exact ⟨rfl,HFIN.out.1,HFIN.out.2⟩
set_option maxHeartbeats 1600000 in
set_option maxRecDepth 100000 in
theorem readRid_any (base bm n:Nat) (s:ByteArray) (m:MediaS) (cs:List (CodecS×Value)) (vC vE vR vS vY:Value) (w:World) (h:MW base bm n w m cs vC vE vR vS vY) (hs:s.size≤140737488355328) (hn:n≤64) :
 Calls Tryz.prog 119 #[.pointer (some ⟨bm,0,none⟩),.string s] w (RdO base bm (n+1) w {m with rids:=m.rids++[bs (hd (tx s))],sending:=decide (tl (tx s)=wSend)}):=by
 have HC1:=Lib.hid (cutc_any s w (by omega))
 have hbw:base≤w.heap.size:=Nat.le_trans h.hbm (Nat.le_of_lt h.box.lt)
 obtain ⟨AE,nE0,hvE,-⟩:=Own.form h.hR
 obtain ⟨cE,hcE⟩:∃c,nE0=c:=⟨_,rfl⟩
 obtain ⟨nE,hnE⟩:∃c,(m.rids.map tcell).length=c:=⟨_,rfl⟩
 rw [hnE,hcE] at hvE
 subst hvE
 obtain ⟨a,ha⟩:∃a,bs (hd (tx s))=a:=⟨_,rfl⟩
 obtain ⟨b,hb⟩:∃a,bs (tl (tx s))=a:=⟨_,rfl⟩
 have haz:a.size≤140737488355328:=by rw [←ha,bs_size];have:=(cutS_len [32] (tx s)).1;rw [tx_length] at this;exact Nat.le_trans this hs
 have HAZ:=Lib.hid haz
 rw [ha,hb] at HC1
 have hbt:tl (tx s)=tx b:=by rw [←hb,tx_bs]
 rw [ha,hbt]
 have HSD:Hid ((b.toList == [115,101,110,100])=decide (tx b=wSend)):=Lib.hid (by
  rw [toList_tx]
  by_cases e:tx b=wSend
  · rw [e];rfl
  · rw [decide_eq_false e,beq_eq_false_iff_ne];exact e)
 rw [←HSD.out]
 have HM:=Lib.hid h
 have HN64:=Lib.hid hn
 have HBW:=Lib.hid hbw
 clear h hs hn hbw hnE hcE ha hb haz hbt HSD
 go_enter Tryz.func119,Tryz.ntmps119
 go_upto_region 1 with (go_at_call 53;(with_reducible refine HC1.out.mono ?_);rintro e w1 ⟨rfl,hb1⟩;have H1:=Lib.hid hb1;clear hb1;dsimp only)
 have HM1:=Lib.hid (HM.out.under H1.out)
 have HR1:Hid (Rdt base bm w w1):=Lib.hid ((Rdt.refl base bm w).under H1.out HBW.out)
 have HB1:Hid (base≤w1.heap.size):=Lib.hid (Nat.le_trans HBW.out H1.out.size)
 have HA:Hid (MW base bm n (w1.alloc (.cells #[.string a] 9)) m cs vC vE (.slice AE nE cE) vS vY∧Whole (w1.alloc (.cells #[.string a] 9)) w1.heap.size 9 #[.string a]∧Rdt base bm w (w1.alloc (.cells #[.string a] 9))∧base≤(w1.alloc (.cells #[.string a] 9)).heap.size):=Lib.hid
  ⟨HM1.out.under ((Below.refl _ w1).alloc (Nat.le_refl _) _),Whole.new _ _ _,HR1.out.under ((Below.refl _ w1).alloc (Nat.le_refl _) _) HB1.out,by rw [World.size_alloc];have:=HB1.out;omega⟩
 have e1:w1.cell? ⟨bm,6,none⟩=some (.slice AE nE cE):=HM1.out.box.cell 6
 go_wp2_with (at_builtin;refine wpList_appendE (r:=[.string a]) rfl (.tmp 16) (.tmp 18) rfl Tryz.underlying24 Tryz.infoStr rfl (Nat.zero_lt_succ _) rfl HA.out.1.hR rfl HA.out.2.1 rfl (fun u hu=>by simp at hu;subst hu;rfl) (by rw [List.length_map];have:=HA.out.1.lens.2.2.1;have:=HN64.out;omega) (by rw [List.length_map];have:=HA.out.1.lens.2.2.1;have:=HN64.out;omega) HA.out.2.2.2 ?_
              intro v8 w8 ho8 hg8 hn8
              have H8:=Lib.hid (HA.out.1.ridsA (x:=a) ho8 hg8 HA.out.2.2.2 HAZ.out HN64.out hn8)
              have hbx8:Whole w8 bm 28 (mcell m vC vE (.slice AE nE cE) vS vY):=HA.out.1.box.grown hg8 (fun e=>(HA.out.1.hR.apart HA.out.1.box (by decide)) e.symm)
              have c8:w8.cell? ⟨bm,6,none⟩=some (.slice AE nE cE):=hbx8.cell 6
              have c9:w8.cell? ⟨bm,7,none⟩=some (.bool m.sending):=hbx8.cell 7
              have f8:=hbx8.frz
              have HFIN:Hid ((∃cs vC vE vR vS vY,MW base bm (n+1) ((w8.setCell ⟨bm,6,none⟩ v8).setCell ⟨bm,7,none⟩ (.bool (b.toList == [115,101,110,100]))) {m with rids:=m.rids++[a],sending:=(b.toList == [115,101,110,100])} cs vC vE vR vS vY)∧Rdt base bm w ((w8.setCell ⟨bm,6,none⟩ v8).setCell ⟨bm,7,none⟩ (.bool (b.toList == [115,101,110,100])))):=Lib.hid
               ⟨⟨_,_,_,_,_,_,H8.out.1.cell (m':={m with rids:=m.rids++[a],sending:=(b.toList == [115,101,110,100])}) 7 _ rfl rfl rfl rfl rfl rfl H8.out.1.siz.mid⟩,HA.out.2.2.1.trans (H8.out.2.cell H8.out.1.hbm 7 _)⟩
              obtain ⟨A8,l8,k8,hv8⟩:∃A l k,v8=.slice A l k:=by obtain ⟨A,k,h,-⟩:=ho8.form;exact ⟨_,_,_,h⟩
              subst hv8
              clear ho8 hg8 hn8 hbx8 e1)
 go_end0
 exact ⟨rfl,HFIN.out.1,HFIN.out.2⟩
section
end
set_option maxHeartbeats 800000 in
theorem lastCodec_none (base bm n:Nat) (m:MediaS) (vC vE vR vS vY:Value) (w:World) (h:MW base bm n w m [] vC vE vR vS vY) :
 Calls Tryz.prog 168 #[.pointer (some ⟨bm,0,none⟩)] w fun e w'=>e=.returned (.pointer none)∧w=w':=by
 obtain ⟨A,k,hv,-⟩:=Own.form h.hC
 have e4:w.cell? ⟨bm,4,none⟩=some (.slice A 0 k):=by
  have:=h.box.cell 4
  rw [hv] at this
  exact this
 clear h hv
 go_enter Tryz.func168,Tryz.ntmps168
 go_wp2
 go_ret
 exact ⟨rfl,rfl⟩
set_option maxHeartbeats 1600000 in
theorem lastCodec_some (base bm n:Nat) (m:MediaS) (cs0:List (CodecS×Value)) (c:CodecS×Value) (vC vE vR vS vY:Value) (w:World) (h:MW base bm n w m (cs0++[c]) vC vE vR vS vY) (hn:n≤64) :
 ∃g,vC.ownBlock=some g∧Calls Tryz.prog 168 #[.pointer (some ⟨bm,0,none⟩)] w fun e w'=>e=.returned (.pointer (some ⟨g,cs0.length * 6,none⟩))∧Below w.heap.size w w':=by
 obtain ⟨g,k,hv,hg,-,-,hk,-⟩:=Own.at_ h.hC (i:=cs0.length) (r:=ccell c.1 c.2) (by simp)
 refine ⟨g,hg,?_⟩
 rw [List.length_map,List.length_append,List.length_singleton] at hv
 have hl:cs0.length+1≤64:=by
  have:=h.lens.1
  rw [h.eqC] at this
  simp at this
  omega
 have e4:w.cell? ⟨bm,4,none⟩=some (.slice (some ⟨g,0,none⟩) (cs0.length+1) k):=by
  have:=h.box.cell 4
  rw [hv] at this
  exact this
 generalize cs0.length=j at *
 have hne:¬((j:Int)+1=0):=by omega
 have hneb:(((j+1:Nat):Int) == 0)=false:=by rw [beq_eq_false_iff_ne];omega
 have hsub:((j+1:Nat):Int) - 1=(j:Int):=by omega
 have hj0:(0:Int)≤(j:Int):=by omega
 have hj1:(j:Int)<((j+1:Nat):Int):=by omega
 clear h hv hg hk
 go_enter Tryz.func168,Tryz.ntmps168
 go_upto_region 3 with fail
 go_quiet (fail)
 go_wp2
 go_ret
 exact ⟨rfl,below_drewN' (Below.refl _ _) _⟩
set_option maxHeartbeats 1600000 in
set_option maxRecDepth 100000 in
theorem readFormat_any (base bm n:Nat) (s:ByteArray) (m:MediaS) (cs:List (CodecS×Value)) (vC vE vR vS vY:Value) (w:World) (h:MW base bm n w m cs vC vE vR vS vY) (hs:s.size≤140737488355328) (hn:n≤64) :
 Calls Tryz.prog 116 #[.pointer (some ⟨bm,0,none⟩),.string s] w (RdO base bm n w {m with codecs:=onLast (fun c=>{c with format:=bs (tl (tx s))}) m.codecs}):=by
 have hbw:base≤w.heap.size:=Nat.le_trans h.hbm (Nat.le_of_lt h.box.lt)
 rcases List.eq_nil_or_concat cs with rfl | ⟨cs0,c,rfl⟩
 · have hm:({m with codecs:=onLast (fun c=>{c with format:=bs (tl (tx s))}) m.codecs}:MediaS)=m:=by
    have e:m.codecs=[]:=h.eqC
    cases m
    simp only at e
    subst e
    rfl
   rw [hm]
   have HL:=Lib.hid (lastCodec_none base bm n m vC vE vR vS vY w h)
   have HM:=Lib.hid h
   clear h hm hs hn hbw
   go_enter Tryz.func116,Tryz.ntmps116
   go_wp2_with (go_at_call 168;(with_reducible refine HL.out.mono ?_);rintro e w1 ⟨rfl,rfl⟩;dsimp only)
   go_end0
   exact ⟨rfl,⟨_,_,_,_,_,_,HM.out⟩,Rdt.refl _ _ _⟩
 · rw [List.concat_eq_append] at h
   obtain ⟨g,hg,hL⟩:=lastCodec_some base bm n m cs0 c vC vE vR vS vY w h hn
   have HL:=Lib.hid hL
   have HM:=Lib.hid h
   have HG:=Lib.hid hg
   have HBW:=Lib.hid hbw
   have HC1:Hid (∀W:World,Calls Tryz.prog 53 #[.string s] W fun e w'=>e=.returned (.tuple #[.string (bs (hd (tx s))),.string (bs (tl (tx s)))])∧Below W.heap.size W w'):=Lib.hid fun W=>cutc_any s W (by omega)
   have hbz:(bs (tl (tx s))).size≤140737488355328:=by rw [bs_size];have:=(cutS_len [32] (tx s)).2;rw [tx_length] at this;exact Nat.le_trans this hs
   have HBZ:=Lib.hid hbz
   generalize bs (tl (tx s))=b at *
   generalize bs (hd (tx s))=a at *
   clear h hg hL hn hs hbw hbz
   go_enter Tryz.func116,Tryz.ntmps116
   go_upto_region 1 with (go_at_call 168;(with_reducible refine HL.out.mono ?_);rintro e w1 ⟨rfl,hb1⟩;have H1:=Lib.hid hb1;clear hb1;dsimp only)
   go_wp2_with (go_at_call 53
                (with_reducible refine (HC1.out _).mono ?_)
                rintro e w2 ⟨rfl,hb2⟩
                have H2:Hid (Below w.heap.size w w2):=Lib.hid (below_chain (Nat.le_refl _) H1.out hb2)
                clear hb2
                have HM2:=Lib.hid (HM.out.under H2.out)
                have HFX:=Lib.hid (HM2.out.formatL HG.out HBZ.out)
                have HRX:Hid (Rdt base bm w w2):=Lib.hid ((Rdt.refl base bm w).under H2.out HBW.out)
                obtain ⟨g',k',hv',hg',-,-,-,-,hat,-⟩:=Own.at_ HM2.out.hC (i:=cs0.length) (r:=ccell c.1 c.2) (by simp)
                obtain rfl:g=g':=by have:=HG.out.symm.trans hg';exact Option.some.inj this
                have e4:w2.cell? ⟨g,cs0.length * 6+4,none⟩=some (.string c.1.format):=hat 4 (by decide)
                have q4:w2.frozen? ⟨g,cs0.length * 6+4,none⟩=false:=by obtain ⟨cc,hcc⟩:=HM2.out.hC.whole HG.out;exact hcc.frz _
                clear hv' hg' hat
                dsimp only)
   go_end0
   exact ⟨rfl,⟨_,_,_,_,_,_,HFX.out.1⟩,HRX.out.trans HFX.out.2⟩
set_option maxHeartbeats 1600000 in
set_option maxRecDepth 100000 in
theorem readFeedback_any (base bm n:Nat) (s:ByteArray) (m:MediaS) (cs:List (CodecS×Value)) (vC vE vR vS vY:Value) (w:World) (h:MW base bm n w m cs vC vE vR vS vY) (hs:s.size≤140737488355328) (hn:n≤64) :
 Calls Tryz.prog 117 #[.pointer (some ⟨bm,0,none⟩),.string s] w (RdO base bm (n+1) w {m with codecs:=onLast (fun c=>{c with feedback:=c.feedback++[bs (tl (tx s))]}) m.codecs}):=by
 have hbw:base≤w.heap.size:=Nat.le_trans h.hbm (Nat.le_of_lt h.box.lt)
 rcases List.eq_nil_or_concat cs with rfl | ⟨cs0,c,rfl⟩
 · have hm:({m with codecs:=onLast (fun c=>{c with feedback:=c.feedback++[bs (tl (tx s))]}) m.codecs}:MediaS)=m:=by
    have e:m.codecs=[]:=h.eqC
    cases m
    simp only at e
    subst e
    rfl
   rw [hm]
   have HL:=Lib.hid (lastCodec_none base bm n m vC vE vR vS vY w h)
   have HM:Hid (MW base bm (n+1) w m [] vC vE vR vS vY):=Lib.hid ⟨h.eqC,h.box,h.hC,h.hF,h.hE,h.hR,h.hS,h.hY,h.ap,h.hbm,h.siz,by obtain ⟨l1,l2,l3,l4,l5,l6⟩:=h.lens;exact ⟨by omega,by omega,by omega,by omega,by omega,fun c hc=>by have:=l6 c hc;omega⟩⟩
   clear h hm hs hn hbw
   go_enter Tryz.func117,Tryz.ntmps117
   go_wp2_with (go_at_call 168;(with_reducible refine HL.out.mono ?_);rintro e w1 ⟨rfl,rfl⟩;dsimp only)
   go_end0
   exact ⟨rfl,⟨_,_,_,_,_,_,HM.out⟩,Rdt.refl _ _ _⟩
 · rw [List.concat_eq_append] at h
   obtain ⟨g,hg,hL⟩:=lastCodec_some base bm n m cs0 c vC vE vR vS vY w h hn
   obtain ⟨AE,nE,hvE,-⟩:=Own.form (h.hF c (by simp))
   obtain ⟨cf,cv⟩:=c
   have hvE:cv=.slice AE (cf.feedback.map tcell).length nE:=hvE
   obtain ⟨lE,hlE⟩:∃l,(cf.feedback.map tcell).length=l:=⟨_,rfl⟩
   rw [hlE] at hvE
   subst hvE
   clear hlE
   have HL:=Lib.hid hL
   have HM:=Lib.hid h
   have HG:=Lib.hid hg
   have HBW:=Lib.hid hbw
   have HN64:=Lib.hid hn
   have HC1:Hid (∀W:World,Calls Tryz.prog 53 #[.string s] W fun e w'=>e=.returned (.tuple #[.string (bs (hd (tx s))),.string (bs (tl (tx s)))])∧Below W.heap.size W w'):=Lib.hid fun W=>cutc_any s W (by omega)
   have hbz:(bs (tl (tx s))).size≤140737488355328:=by rw [bs_size];have:=(cutS_len [32] (tx s)).2;rw [tx_length] at this;exact Nat.le_trans this hs
   have HBZ:=Lib.hid hbz
   generalize bs (tl (tx s))=b at *
   generalize bs (hd (tx s))=a at *
   clear h hg hL hn hs hbw hbz
   go_enter Tryz.func117,Tryz.ntmps117
   go_upto_region 1 with (go_at_call 168;(with_reducible refine HL.out.mono ?_);rintro e w1 ⟨rfl,hb1⟩;have H1:=Lib.hid hb1;clear hb1;dsimp only)
   go_upto_region 3 with (go_at_call 53;(with_reducible refine (HC1.out _).mono ?_);rintro e w2 ⟨rfl,hb2⟩;have H2:Hid (Below w.heap.size w w2):=Lib.hid (below_chain (Nat.le_refl _) H1.out hb2);clear hb2;dsimp only)
   have HM2:=Lib.hid (HM.out.under H2.out)
   have HRX:Hid (Rdt base bm w w2):=Lib.hid ((Rdt.refl base bm w).under H2.out HBW.out)
   have HB2:Hid (base≤w2.heap.size):=Lib.hid (Nat.le_trans HBW.out H2.out.size)
   have HA:Hid (MW base bm n (w2.alloc (.cells #[.string b] 9)) m (cs0++[(cf,.slice AE lE nE)]) vC vE vR vS vY∧Whole (w2.alloc (.cells #[.string b] 9)) w2.heap.size 9 #[.string b]∧Rdt base bm w (w2.alloc (.cells #[.string b] 9))∧base≤(w2.alloc (.cells #[.string b] 9)).heap.size):=Lib.hid
    ⟨HM2.out.under ((Below.refl _ w2).alloc (Nat.le_refl _) _),Whole.new _ _ _,HRX.out.under ((Below.refl _ w2).alloc (Nat.le_refl _) _) HB2.out,by rw [World.size_alloc];have:=HB2.out;omega⟩
   obtain ⟨g',k',hv',hg',-,-,-,-,hat,-⟩:=Own.at_ HM2.out.hC (i:=cs0.length) (r:=ccell cf (.slice AE lE nE)) (by simp)
   obtain rfl:g=g':=by have:=HG.out.symm.trans hg';exact Option.some.inj this
   have e5:w2.cell? ⟨g,cs0.length * 6+5,none⟩=some (.slice AE lE nE):=hat 5 (by decide)
   clear hv' hg' hat
   go_wp2_with (at_builtin
                refine wpList_appendE (r:=[.string b]) rfl (.tmp 20) (.tmp 22) rfl Tryz.underlying24 Tryz.infoStr rfl (Nat.zero_lt_succ _) rfl (HA.out.1.hF (cf,.slice AE lE nE) (by simp)) rfl HA.out.2.1 rfl (fun u hu=>by simp at hu;subst hu;rfl) (by rw [List.length_map];have:=HA.out.1.lens.2.2.2.2.2 cf (by rw [HA.out.1.eqC];simp);have:=HN64.out;show (cf.feedback.length+1) * 16≤_;omega) (by rw [List.length_map];have:=HA.out.1.lens.2.2.2.2.2 cf (by rw [HA.out.1.eqC];simp);have:=HN64.out;show cf.feedback.length+1≤_;omega) HA.out.2.2.2 ?_
                intro v8 w8 ho8 hg8 hn8
                have H8:=Lib.hid (HA.out.1.feedL HG.out ho8 hg8 HA.out.2.2.2 HBZ.out HN64.out hn8)
                have hC8:=HA.out.1.hC.grown hg8 (HA.out.1.hC.apart2 (HA.out.1.hF (cf,.slice AE lE nE) (by simp)) (by decide))
                obtain ⟨g',k',hv',hg',-,-,-,-,hat,-⟩:=Own.at_ hC8 (i:=cs0.length) (r:=ccell cf (.slice AE lE nE)) (by simp)
                obtain rfl:g=g':=by have:=HG.out.symm.trans hg';exact Option.some.inj this
                have c8:w8.cell? ⟨g,cs0.length * 6+5,none⟩=some (.slice AE lE nE):=hat 5 (by decide)
                have f8:w8.frozen? ⟨g,cs0.length * 6+5,none⟩=false:=by obtain ⟨cc,hcc⟩:=hC8.whole HG.out;exact hcc.frz _
                have HFIN:Hid ((∃cs vC vE vR vS vY,MW base bm (n+1) (w8.setCell ⟨g,cs0.length * 6+5,none⟩ v8) {m with codecs:=onLast (fun c=>{c with feedback:=c.feedback++[b]}) m.codecs} cs vC vE vR vS vY)∧Rdt base bm w (w8.setCell ⟨g,cs0.length * 6+5,none⟩ v8)):=Lib.hid ⟨⟨_,_,_,_,_,_,H8.out.1⟩,HA.out.2.2.1.trans H8.out.2⟩
                obtain ⟨A8,l8,k8,hv8⟩:∃A l k,v8=.slice A l k:=by obtain ⟨A,k,h,-⟩:=ho8.form;exact ⟨_,_,_,h⟩
                subst hv8
                clear ho8 hg8 hn8 hC8 hv' hg' hat e5)
   go_end0
   exact ⟨rfl,HFIN.out.1,HFIN.out.2⟩
def noDir (l:Tx) (j:Nat):Prop:=(1≤j→l≠nInactive)∧(2≤j→l≠nSendonly)∧(3≤j→l≠nRecvonly)∧(4≤j→l≠nSendrecv)
theorem noDir_step {l:Tx} {j:Nat} {T:Tx} (h:noDir l j) (hT:j=0∧T=nInactive∨j=1∧T=nSendonly∨j=2∧T=nRecvonly∨j=3∧T=nSendrecv) (hne:l≠T):noDir l (j+1):=by
 obtain ⟨h1,h2,h3,h4⟩:=h
 rcases hT with ⟨rfl,rfl⟩ | ⟨rfl,rfl⟩ | ⟨rfl,rfl⟩ | ⟨rfl,rfl⟩
 · exact ⟨fun _=>hne,fun h=>by omega,fun h=>by omega,fun h=>by omega⟩
 · exact ⟨fun _=>h1 (by omega),fun _=>hne,fun h=>by omega,fun h=>by omega⟩
 · exact ⟨fun _=>h1 (by omega),fun _=>h2 (by omega),fun _=>hne,fun h=>by omega⟩
 · exact ⟨fun _=>h1 (by omega),fun _=>h2 (by omega),fun _=>h3 (by omega),fun _=>hne⟩
theorem noDir_yes {l:Tx} {j:Nat} {T:Tx} (hT:j=0∧T=nInactive∨j=1∧T=nSendonly∨j=2∧T=nRecvonly∨j=3∧T=nSendrecv) (he:l=T):dirK l=some (j:Int):=by
 rcases hT with ⟨rfl,rfl⟩ | ⟨rfl,rfl⟩ | ⟨rfl,rfl⟩ | ⟨rfl,rfl⟩ <;> subst he <;> decide
abbrev tabD:List Value:=[.string ⟨#[105,110,97,99,116,105,118,101]⟩,.string ⟨#[115,101,110,100,111,110,108,121]⟩,.string ⟨#[114,101,99,118,111,110,108,121]⟩,.string ⟨#[115,101,110,100,114,101,99,118]⟩]
theorem Env.tabD {w:World} (h:Env w):∀j v,tabD[j]? = some v→w.cell? ((⟨0,0,Option.none⟩:Addr).add j)=some v:=fun j v hv=>by
 have hj:j<4:=(List.getElem?_eq_some_iff.1 hv).1
 rw [Addr.add_lit,Nat.zero_add]
 have:j=0∨j=1∨j=2∨j=3:=by omega
 rcases this with rfl | rfl | rfl | rfl
 · rw [h.dirs 0 (by decide),←hv];rfl
 · rw [h.dirs 1 (by decide),←hv];rfl
 · rw [h.dirs 2 (by decide),←hv];rfl
 · rw [h.dirs 3 (by decide),←hv];rfl
theorem idxD_0 (W:World):(Instr.index 107 (.agg #[.string ⟨#[105,110,97,99,116,105,118,101]⟩,.string ⟨#[115,101,110,100,111,110,108,121]⟩,.string ⟨#[114,101,99,118,111,110,108,121]⟩,.string ⟨#[115,101,110,100,114,101,99,118]⟩]) (.int .i64 0)).run Tryz.prog W=.ok (.string ⟨#[105,110,97,99,116,105,118,101]⟩) W:=by
 simp [Instr.index,asIntOf,Sem.run_bind,run_underlying Tryz.underlying107,Tryz.sizeOf9,part,run_underlying Tryz.underlying9,isAgg]
theorem idxD_1 (W:World):(Instr.index 107 (.agg #[.string ⟨#[105,110,97,99,116,105,118,101]⟩,.string ⟨#[115,101,110,100,111,110,108,121]⟩,.string ⟨#[114,101,99,118,111,110,108,121]⟩,.string ⟨#[115,101,110,100,114,101,99,118]⟩]) (.int .i64 1)).run Tryz.prog W=.ok (.string ⟨#[115,101,110,100,111,110,108,121]⟩) W:=by
 simp [Instr.index,asIntOf,Sem.run_bind,run_underlying Tryz.underlying107,Tryz.sizeOf9,part,run_underlying Tryz.underlying9,isAgg]
theorem idxD_2 (W:World):(Instr.index 107 (.agg #[.string ⟨#[105,110,97,99,116,105,118,101]⟩,.string ⟨#[115,101,110,100,111,110,108,121]⟩,.string ⟨#[114,101,99,118,111,110,108,121]⟩,.string ⟨#[115,101,110,100,114,101,99,118]⟩]) (.int .i64 2)).run Tryz.prog W=.ok (.string ⟨#[114,101,99,118,111,110,108,121]⟩) W:=by
 simp [Instr.index,asIntOf,Sem.run_bind,run_underlying Tryz.underlying107,Tryz.sizeOf9,part,run_underlying Tryz.underlying9,isAgg]
theorem idxD_3 (W:World):(Instr.index 107 (.agg #[.string ⟨#[105,110,97,99,116,105,118,101]⟩,.string ⟨#[115,101,110,100,111,110,108,121]⟩,.string ⟨#[114,101,99,118,111,110,108,121]⟩,.string ⟨#[115,101,110,100,114,101,99,118]⟩]) (.int .i64 3)).run Tryz.prog W=.ok (.string ⟨#[115,101,110,100,114,101,99,118]⟩) W:=by
 simp [Instr.index,asIntOf,Sem.run_bind,run_underlying Tryz.underlying107,Tryz.sizeOf9,part,run_underlying Tryz.underlying9,isAgg]
def RoO (l:Tx) (w:World) (e:Ending) (w':World):Prop:=∃v,e=.returned v∧RdrV l v w'∧Below w.heap.size w w'
set_option maxHeartbeats 6400000 in
set_option maxRecDepth 100000 in
theorem readerOf_any (a:ByteArray) (w:World) (hE:Env w) (h7:7≤w.heap.size):Calls Tryz.prog 56 #[.string a] w (RoO (tx a) w):=by
 have HEN:=Lib.hid hE
 have HNK:Hid (tx a≠nMid→tx a≠nCodec→tx a≠nFormat→tx a≠nFeedback→tx a≠nExt→tx a≠nRid→tx a≠nSimulcast→tx a≠nSource→tx a≠nCrypto→tx a≠nSctp→noDir (tx a) 4→RoO (tx a) w (.returned .nilFunc) w):=Lib.hid fun h0 h1 h2 h3 h4 h5 h6 h7 h8 h9 hd=>⟨_,rfl,.other (by
  rw [Bool.eq_false_iff]
  intro hc
  rw [List.contains_iff_mem] at hc
  unfold knownN at hc
  simp only [List.mem_cons,List.not_mem_nil,or_false] at hc
  obtain ⟨d1,d2,d3,d4⟩:=hd
  rcases hc with e | e | e | e | e | e | e | e | e | e | e | e | e | e
  · exact h0 e
  · exact d1 (by omega) e
  · exact d2 (by omega) e
  · exact d3 (by omega) e
  · exact d4 (by omega) e
  · exact h1 e
  · exact h2 e
  · exact h3 e
  · exact h4 e
  · exact h5 e
  · exact h6 e
  · exact h7 e
  · exact h8 e
  · exact h9 e) rfl,Below.refl _ _⟩
 clear hE h7
 have hmf:∀(fn:Fn) (first cap:Array Value) (w:World),(Instr.makeFunc fn first cap).run Tryz.prog w=.ok (.func fn first cap) w:=fun _ _ _ _=>rfl
 go_enter Tryz.func56,Tryz.ntmps56
 have HQ0:Hid ((a.toList == [109,105,100])=true↔tx a=nMid):=Lib.hid (by rw [beq_iff_eq,toList_tx])
 obtain ⟨q,hq⟩:∃q,(a.toList == [109,105,100])=q:=⟨_,rfl⟩
 rw [hq] at HQ0
 go_upto_if 6 with fail
 clear hq
 cases q with
 | true =>
   have HFIN:Hid (RoO (tx a) w (.returned (.func (.func 114) #[] #[])) w):=Lib.hid ⟨_,rfl,.mid (HQ0.out.1 rfl) rfl,Below.refl _ _⟩
   go_wp2
   go_ret
   exact HFIN.out
 | false =>
   have HN0:Hid (tx a≠nMid):=Lib.hid fun h=>by have:=HQ0.out.2 h;cases this
   clear HQ0
   have HQ1:Hid ((a.toList == [114,116,112,109,97,112])=true↔tx a=nCodec):=Lib.hid (by rw [beq_iff_eq,toList_tx])
   obtain ⟨q,hq⟩:∃q,(a.toList == [114,116,112,109,97,112])=q:=⟨_,rfl⟩
   rw [hq] at HQ1
   go_upto_if 8 with fail
   clear hq
   cases q with
   | true =>
     have HFIN:Hid (RoO (tx a) w (.returned (.func (.func 115) #[] #[])) w):=Lib.hid ⟨_,rfl,.rtpmap (HQ1.out.1 rfl) rfl,Below.refl _ _⟩
     go_wp2
     go_ret
     exact HFIN.out
   | false =>
     have HN1:Hid (tx a≠nCodec):=Lib.hid fun h=>by have:=HQ1.out.2 h;cases this
     clear HQ1
     have HQ2:Hid ((a.toList == [102,109,116,112])=true↔tx a=nFormat):=Lib.hid (by rw [beq_iff_eq,toList_tx])
     obtain ⟨q,hq⟩:∃q,(a.toList == [102,109,116,112])=q:=⟨_,rfl⟩
     rw [hq] at HQ2
     go_upto_if 10 with fail
     clear hq
     cases q with
     | true =>
       have HFIN:Hid (RoO (tx a) w (.returned (.func (.func 116) #[] #[])) w):=Lib.hid ⟨_,rfl,.fmtp (HQ2.out.1 rfl) rfl,Below.refl _ _⟩
       go_wp2
       go_ret
       exact HFIN.out
     | false =>
       have HN2:Hid (tx a≠nFormat):=Lib.hid fun h=>by have:=HQ2.out.2 h;cases this
       clear HQ2
       have HQ3:Hid ((a.toList == [114,116,99,112,45,102,98])=true↔tx a=nFeedback):=Lib.hid (by rw [beq_iff_eq,toList_tx])
       obtain ⟨q,hq⟩:∃q,(a.toList == [114,116,99,112,45,102,98])=q:=⟨_,rfl⟩
       rw [hq] at HQ3
       go_upto_if 12 with fail
       clear hq
       cases q with
       | true =>
         have HFIN:Hid (RoO (tx a) w (.returned (.func (.func 117) #[] #[])) w):=Lib.hid ⟨_,rfl,.rtcpfb (HQ3.out.1 rfl) rfl,Below.refl _ _⟩
         go_wp2
         go_ret
         exact HFIN.out
       | false =>
         have HN3:Hid (tx a≠nFeedback):=Lib.hid fun h=>by have:=HQ3.out.2 h;cases this
         clear HQ3
         have HQ4:Hid ((a.toList == [101,120,116,109,97,112])=true↔tx a=nExt):=Lib.hid (by rw [beq_iff_eq,toList_tx])
         obtain ⟨q,hq⟩:∃q,(a.toList == [101,120,116,109,97,112])=q:=⟨_,rfl⟩
         rw [hq] at HQ4
         go_upto_if 14 with fail
         clear hq
         cases q with
         | true =>
           have HFIN:Hid (RoO (tx a) w (.returned (.func (.func 118) #[] #[])) w):=Lib.hid ⟨_,rfl,.extmap (HQ4.out.1 rfl) rfl,Below.refl _ _⟩
           go_wp2
           go_ret
           exact HFIN.out
         | false =>
           have HN4:Hid (tx a≠nExt):=Lib.hid fun h=>by have:=HQ4.out.2 h;cases this
           clear HQ4
           have HQ5:Hid ((a.toList == [114,105,100])=true↔tx a=nRid):=Lib.hid (by rw [beq_iff_eq,toList_tx])
           obtain ⟨q,hq⟩:∃q,(a.toList == [114,105,100])=q:=⟨_,rfl⟩
           rw [hq] at HQ5
           go_upto_if 16 with fail
           clear hq
           cases q with
           | true =>
             have HFIN:Hid (RoO (tx a) w (.returned (.func (.func 119) #[] #[])) w):=Lib.hid ⟨_,rfl,.rid (HQ5.out.1 rfl) rfl,Below.refl _ _⟩
             go_wp2
             go_ret
             exact HFIN.out
           | false =>
             have HN5:Hid (tx a≠nRid):=Lib.hid fun h=>by have:=HQ5.out.2 h;cases this
             clear HQ5
             have HQ6:Hid ((a.toList == [115,105,109,117,108,99,97,115,116])=true↔tx a=nSimulcast):=Lib.hid (by rw [beq_iff_eq,toList_tx])
             obtain ⟨q,hq⟩:∃q,(a.toList == [115,105,109,117,108,99,97,115,116])=q:=⟨_,rfl⟩
             rw [hq] at HQ6
             go_upto_if 18 with fail
             clear hq
             cases q with
             | true =>
               have HFIN:Hid (RoO (tx a) w (.returned (.func (.func 120) #[] #[])) w):=Lib.hid ⟨_,rfl,.simulcast (HQ6.out.1 rfl) rfl,Below.refl _ _⟩
               go_wp2
               go_ret
               exact HFIN.out
             | false =>
               have HN6:Hid (tx a≠nSimulcast):=Lib.hid fun h=>by have:=HQ6.out.2 h;cases this
               clear HQ6
               have HQ7:Hid ((a.toList == [115,115,114,99])=true↔tx a=nSource):=Lib.hid (by rw [beq_iff_eq,toList_tx])
               obtain ⟨q,hq⟩:∃q,(a.toList == [115,115,114,99])=q:=⟨_,rfl⟩
               rw [hq] at HQ7
               go_upto_if 20 with fail
               clear hq
               cases q with
               | true =>
                 have HFIN:Hid (RoO (tx a) w (.returned (.func (.func 121) #[] #[])) w):=Lib.hid ⟨_,rfl,.ssrc (HQ7.out.1 rfl) rfl,Below.refl _ _⟩
                 go_wp2
                 go_ret
                 exact HFIN.out
               | false =>
                 have HN7:Hid (tx a≠nSource):=Lib.hid fun h=>by have:=HQ7.out.2 h;cases this
                 clear HQ7
                 have HQ8:Hid ((a.toList == [99,114,121,112,116,111])=true↔tx a=nCrypto):=Lib.hid (by rw [beq_iff_eq,toList_tx])
                 obtain ⟨q,hq⟩:∃q,(a.toList == [99,114,121,112,116,111])=q:=⟨_,rfl⟩
                 rw [hq] at HQ8
                 go_upto_if 22 with fail
                 clear hq
                 cases q with
                 | true =>
                   have HFIN:Hid (RoO (tx a) w (.returned (.func (.func 122) #[] #[])) w):=Lib.hid ⟨_,rfl,.crypto (HQ8.out.1 rfl) rfl,Below.refl _ _⟩
                   go_wp2
                   go_ret
                   exact HFIN.out
                 | false =>
                   have HN8:Hid (tx a≠nCrypto):=Lib.hid fun h=>by have:=HQ8.out.2 h;cases this
                   clear HQ8
                   have HQ9:Hid ((a.toList == [115,99,116,112,45,112,111,114,116])=true↔tx a=nSctp):=Lib.hid (by rw [beq_iff_eq,toList_tx])
                   obtain ⟨q,hq⟩:∃q,(a.toList == [115,99,116,112,45,112,111,114,116])=q:=⟨_,rfl⟩
                   rw [hq] at HQ9
                   go_upto_if 24 with fail
                   clear hq
                   cases q with
                   | true =>
                     have HFIN:Hid (RoO (tx a) w (.returned (.func (.func 123) #[] #[])) w):=Lib.hid ⟨_,rfl,.sctpport (HQ9.out.1 rfl) rfl,Below.refl _ _⟩
                     go_wp2
                     go_ret
                     exact HFIN.out
                   | false =>
                     have HN9:Hid (tx a≠nSctp):=Lib.hid fun h=>by have:=HQ9.out.2 h;cases this
                     clear HQ9
                     have HTAB:Hid (∀j v,tabD[j]? = some v→w.cell? ((⟨0,0,none⟩:Addr).add j)=some v):=Lib.hid HEN.out.tabD
                     have HNO:Hid (noDir (tx a) 4→RoO (tx a) w (.returned .nilFunc) w):=Lib.hid (HNK.out HN0.out HN1.out HN2.out HN3.out HN4.out HN5.out HN6.out HN7.out HN8.out HN9.out)
                     clear HNK HN0 HN1 HN2 HN3 HN4 HN5 HN6 HN7 HN8 HN9
                     go_wp2_with (refine wpList_load_at ?_ 107 (.global 0) ?_ _ ?_ [.string ⟨#[105,110,97,99,116,105,118,101]⟩,.string ⟨#[115,101,110,100,111,110,108,121]⟩,.string ⟨#[114,101,99,118,111,110,108,121]⟩,.string ⟨#[115,101,110,100,114,101,99,118]⟩] _ HTAB.out Tryz.underlying107 ?_ Tryz.sizeFour ?_;rfl;rfl;rfl;rfl)
                     go_loopw [27,3,4] (fun s27 _ _ wr=>∃k:Nat,k≤4∧s27=.int .i64 k∧(noDir (tx a) k∧Below w.heap.size w wr)) (fun s27 _ _ _=>4 - (intOf s27).toNat)
                     case atStart=>exact ⟨0,by omega,rfl,⟨fun h=>by omega,fun h=>by omega,fun h=>by omega,fun h=>by omega⟩,Below.refl _ _⟩
                     case round =>
                      obtain ⟨k,hk,rfl,hst⟩:=hrel
                      have HS:=Lib.hid hst
                      clear hst
                      have hk4:k=0∨k=1∨k=2∨k=3∨k=4:=by omega
                      rcases hk4 with rfl | rfl | rfl | rfl | rfl
                      · have hix:=idxD_0
                        have HQ:Hid ((a.toList == [105,110,97,99,116,105,118,101])=true↔tx a=nInactive):=Lib.hid (by rw [beq_iff_eq,toList_tx])
                        obtain ⟨q,hq⟩:∃q,(a.toList == [105,110,97,99,116,105,118,101])=q:=⟨_,rfl⟩
                        rw [hq] at HQ
                        have HW:Hid (Below w.heap.size w (wr.alloc (.cells #[.int .i64 0] 3))∧Whole (wr.alloc (.cells #[.int .i64 0] 3)) wr.heap.size 3 #[.int .i64 0]):=Lib.hid ⟨HS.out.2.alloc HS.out.2.size _,Whole.new _ _ _⟩
                        go_upto_if 33 with fail
                        clear hq
                        cases q with
                        | true =>
                          have HFIN:Hid (RoO (tx a) w (.returned (.func (.func 124) #[] #[.pointer (some ⟨wr.heap.size,0,none⟩)])) (wr.alloc (.cells #[.int .i64 0] 3))):=Lib.hid ⟨_,rfl,.dir 0 wr.heap.size (noDir_yes (T:=nInactive) (.inl ⟨rfl,rfl⟩) (HQ.out.1 rfl)) rfl HW.out.2,HW.out.1⟩
                          go_wp2
                          go_ret
                          exact HFIN.out
                        | false =>
                          have HX:Hid (noDir (tx a) (0+1)∧Below w.heap.size w (wr.alloc (.cells #[.int .i64 0] 3))):=Lib.hid ⟨noDir_step (T:=nInactive) HS.out.1 (.inl ⟨rfl,rfl⟩) (fun h=>by have:=HQ.out.2 h;cases this),HW.out.1⟩
                          go_wp2
                          go_roundw
                          case rel=>exact ⟨0+1,by omega,by go_num,HX.out⟩
                          case measure=>simp [intOf]
                      · have hix:=idxD_1
                        have HQ:Hid ((a.toList == [115,101,110,100,111,110,108,121])=true↔tx a=nSendonly):=Lib.hid (by rw [beq_iff_eq,toList_tx])
                        obtain ⟨q,hq⟩:∃q,(a.toList == [115,101,110,100,111,110,108,121])=q:=⟨_,rfl⟩
                        rw [hq] at HQ
                        have HW:Hid (Below w.heap.size w (wr.alloc (.cells #[.int .i64 1] 3))∧Whole (wr.alloc (.cells #[.int .i64 1] 3)) wr.heap.size 3 #[.int .i64 1]):=Lib.hid ⟨HS.out.2.alloc HS.out.2.size _,Whole.new _ _ _⟩
                        go_upto_if 33 with fail
                        clear hq
                        cases q with
                        | true =>
                          have HFIN:Hid (RoO (tx a) w (.returned (.func (.func 124) #[] #[.pointer (some ⟨wr.heap.size,0,none⟩)])) (wr.alloc (.cells #[.int .i64 1] 3))):=Lib.hid ⟨_,rfl,.dir 1 wr.heap.size (noDir_yes (T:=nSendonly) (.inr (.inl ⟨rfl,rfl⟩)) (HQ.out.1 rfl)) rfl HW.out.2,HW.out.1⟩
                          go_wp2
                          go_ret
                          exact HFIN.out
                        | false =>
                          have HX:Hid (noDir (tx a) (1+1)∧Below w.heap.size w (wr.alloc (.cells #[.int .i64 1] 3))):=Lib.hid ⟨noDir_step (T:=nSendonly) HS.out.1 (.inr (.inl ⟨rfl,rfl⟩)) (fun h=>by have:=HQ.out.2 h;cases this),HW.out.1⟩
                          go_wp2
                          go_roundw
                          case rel=>exact ⟨1+1,by omega,by go_num,HX.out⟩
                          case measure=>simp [intOf]
                      · have hix:=idxD_2
                        have HQ:Hid ((a.toList == [114,101,99,118,111,110,108,121])=true↔tx a=nRecvonly):=Lib.hid (by rw [beq_iff_eq,toList_tx])
                        obtain ⟨q,hq⟩:∃q,(a.toList == [114,101,99,118,111,110,108,121])=q:=⟨_,rfl⟩
                        rw [hq] at HQ
                        have HW:Hid (Below w.heap.size w (wr.alloc (.cells #[.int .i64 2] 3))∧Whole (wr.alloc (.cells #[.int .i64 2] 3)) wr.heap.size 3 #[.int .i64 2]):=Lib.hid ⟨HS.out.2.alloc HS.out.2.size _,Whole.new _ _ _⟩
                        go_upto_if 33 with fail
                        clear hq
                        cases q with
                        | true =>
                          have HFIN:Hid (RoO (tx a) w (.returned (.func (.func 124) #[] #[.pointer (some ⟨wr.heap.size,0,none⟩)])) (wr.alloc (.cells #[.int .i64 2] 3))):=Lib.hid ⟨_,rfl,.dir 2 wr.heap.size (noDir_yes (T:=nRecvonly) (.inr (.inr (.inl ⟨rfl,rfl⟩))) (HQ.out.1 rfl)) rfl HW.out.2,HW.out.1⟩
                          go_wp2
                          go_ret
                          exact HFIN.out
                        | false =>
                          have HX:Hid (noDir (tx a) (2+1)∧Below w.heap.size w (wr.alloc (.cells #[.int .i64 2] 3))):=Lib.hid ⟨noDir_step (T:=nRecvonly) HS.out.1 (.inr (.inr (.inl ⟨rfl,rfl⟩))) (fun h=>by have:=HQ.out.2 h;cases this),HW.out.1⟩
                          go_wp2
                          go_roundw
                          case rel=>exact ⟨2+1,by omega,by go_num,HX.out⟩
                          case measure=>simp [intOf]
                      · have hix:=idxD_3
                        have HQ:Hid ((a.toList == [115,101,110,100,114,101,99,118])=true↔tx a=nSendrecv):=Lib.hid (by rw [beq_iff_eq,toList_tx])
                        obtain ⟨q,hq⟩:∃q,(a.toList == [115,101,110,100,114,101,99,118])=q:=⟨_,rfl⟩
                        rw [hq] at HQ
                        have HW:Hid (Below w.heap.size w (wr.alloc (.cells #[.int .i64 3] 3))∧Whole (wr.alloc (.cells #[.int .i64 3] 3)) wr.heap.size 3 #[.int .i64 3]):=Lib.hid ⟨HS.out.2.alloc HS.out.2.size _,Whole.new _ _ _⟩
                        go_upto_if 33 with fail
                        clear hq
                        cases q with
                        | true =>
                          have HFIN:Hid (RoO (tx a) w (.returned (.func (.func 124) #[] #[.pointer (some ⟨wr.heap.size,0,none⟩)])) (wr.alloc (.cells #[.int .i64 3] 3))):=Lib.hid ⟨_,rfl,.dir 3 wr.heap.size (noDir_yes (T:=nSendrecv) (.inr (.inr (.inr (⟨rfl,rfl⟩)))) (HQ.out.1 rfl)) rfl HW.out.2,HW.out.1⟩
                          go_wp2
                          go_ret
                          exact HFIN.out
                        | false =>
                          have HX:Hid (noDir (tx a) (3+1)∧Below w.heap.size w (wr.alloc (.cells #[.int .i64 3] 3))):=Lib.hid ⟨noDir_step (T:=nSendrecv) HS.out.1 (.inr (.inr (.inr (⟨rfl,rfl⟩)))) (fun h=>by have:=HQ.out.2 h;cases this),HW.out.1⟩
                          go_wp2
                          go_roundw
                          case rel=>exact ⟨3+1,by omega,by go_num,HX.out⟩
                          case measure=>simp [intOf]
                      · have HFIN:Hid (RoO (tx a) w (.returned .nilFunc) wr):=Lib.hid (by obtain ⟨v,h1,h2,-⟩:=HNO.out HS.out.1;injection h1 with h1;subst h1;exact ⟨_,rfl,h2.under HS.out.2,HS.out.2⟩)
                        go_wp2
                        go_ret
                        exact HFIN.out
end Go.Proofs.YtgnpckelbokniaaGreatDoor
namespace Go.Proofs.YtgnpckelbokniaaGreatDoor
open Go.RowKit Go.Shelf
set_option linter.unusedVariables false
set_option linter.unusedSimpArgs false
abbrev FW:Fence:=Fence.wide
def postM (n:Nat) (fn:Func) (R:Ending→World→Prop):Exit→Act→World→Prop
 | .normal,a,w | .ret,a,w=>LeavesInM FW n Tryz.prog fn a.tmps R a.defers .returning w
 | _,_,_=>False
theorem calls_marks (n:Nat) {f:FuncId} {fn:Func} {c:Code} {args:Array Value} {w:World} {R:Ending→World→Prop} (hf:Tryz.prog.funcs[f]? = some fn) (hb:fn.body=some c)
 (h:c.wp Tryz.prog (postM n fn R) {tmps:=args++Array.replicate (fn.ntmps - args.size) undef,defers:=[]} w):Calls Tryz.prog f args w R:=by
 refine (callsIn_wide (n:=n)).1 (callsIn_of_wp_marks hf hb trivial (wpIn_wide.2 (wp_mono h ?_)) rfl)
 intro e a' w' hq
 cases e with
 | normal=>exact hq
 | ret=>exact hq
 | panic c=>exact hq.elim
 | exit c=>exact hq.elim
 | goto c=>exact hq.elim
 | outgrown=>exact hq.elim
def Tells {α:Type} (n g:Nat) (lb:Array Value) (encs:α→Array Value) (G:List α→α→World→Prop) (Kp:World→World→Prop) (S:List α→Prop) (w:World):Prop :=
 ∀(l:Nat) (J:List α→World→Prop) (Jx:World→Prop) (W:World),Below w.heap.size w W →
  (∀s A B,J s A→Below A.heap.size A B→J s B) →
  (∀pre x W1,J pre W1→G pre x W1→YieldAt FW (n - 1) Tryz.prog l (encs x) W1 fun e W'=>(e=.returned (.bool true)∧J (pre++[x]) W'∧Kp W1 W')∨(e=.returned (.bool false)∧Jx W')) →
  J [] W →
  CallsIn FW n Tryz.prog g (#[.func (.yield l) #[] #[]]++lb) W fun e W'=>(∃v,e=.returned v)∧((∃xs,S xs∧J xs W')∨Jx W')
theorem Books.turn {K:Nat} {r:Loop} {W:World} (h:Books K r W) (r':Loop):Books K r' (W.putObj (K+1) (.loop r')) :=
 ⟨World.putObj_heap_same (Array.getElem?_eq_some_iff.1 h.loop).1,(World.putObj_heap_other (by omega)).trans h.late⟩
def roundEnd (K:Nat) (Kp:World→World→Prop) (I Ix:World→Prop) (W:World):Exit→Act→World→Prop
 | .normal,_,W'=>KeepsFrom K W W'∧Kp W W'∧I W'
 | .ret,_,W'=>KeepsFrom K W W'∧Ix W'
 | _,_,_=>False
theorem range_told {α:Type} {n:Nat} {g:Operand} {ps:Array Tmp} {assign body:Code} {Q:Exit→Act→World→Prop} {a:Act} {w:World} (h1:1≤n) {gf:Nat} {lb:Array Value} (hg:a.eval g=.func (.func gf) #[] lb)
 (eg:∀args w,(callFunc gf args).run Tryz.prog w=.ok (.enter gf args) w) {encs:α→Array Value} {G:List α→α→World→Prop} {Kp:World→World→Prop} {S:List α→Prop} (hseq:Tells (n - 1) gf lb encs G Kp S w)
 (hKt:∀{A B C:World},Kp A B→Kp B C→Kp A C) (hKb:∀(W:World) (l:Nat) (o o':Obj),w.heap.size≤l→W.heap[l]? = some o→o.isCells=false→Kp W (W.putObj l o')) (hps:∀x,(encs x).size=ps.size)
 (I:List α→World→Prop) (Ix:World→Prop) (hI:OwnFrom w.heap.size I) (hIx:OwnFrom w.heap.size fun (_:Unit) W=>Ix W) (h0:I [] w)
 (Ax:List α→α→Act→World→Prop) (hAx:∀pre x a',OwnFrom w.heap.size fun (_:Unit) W=>Ax pre x a' W)
 (hassign:∀(l:Nat) (pre:List α) (x:α) (W:World) (K:Act→World→Prop),I pre W→G pre x W→(∀a' W',KeepsFrom w.heap.size W W'→Kp W W'→Ax pre x a' W'→K a' W') →
   assign.wpIn (FW.inRound l) (n - 1 - 1) Tryz.prog (Exit.then K fun _ _ _=>False) {tmps:=(ps.zip (encs x)).foldl (fun t (p,v)=>t.setIfInBounds p v) a.tmps,defers:=[]} W)
 (hbody:∀(l:Nat) (pre:List α) (x:α) (a':Act) (W:World),Ax pre x a' W→body.wpIn (FW.inRound l) (n - 1 - 1) Tryz.prog (roundEnd w.heap.size Kp (I (pre++[x])) Ix W) a' W)
 (hdone:∀(D:Nat) (xs:List α) (W:World),w.heap.size≤D→S xs→I xs W→W.heap[D]? = some (.deferred (some []))→Q .normal {a with defers:={target:=.collected D,args:=#[]} :: a.defers} W)
 (hstop:∀(D:Nat) (W:World),w.heap.size≤D→Ix W→W.heap[D]? = some (.deferred (some []))→Q .ret {a with defers:={target:=.collected D,args:=#[]} :: a.defers} W) :
 (Code.rangeFunc g ps assign body).wpIn FW n Tryz.prog Q a w:=by
 refine wpIn_rangeFunc fun fn hfn=> ?_
 obtain ⟨K,hK⟩:∃K,w.heap.size=K:=⟨_,rfl⟩
 obtain ⟨rc,hrc⟩:∃rc:LoopState→Option Code→Loop,rc=fun st pe=>{state:=st,pending:=pe,fn,tmps:=a.tmps,params:=ps,assign,body,defers:=K}:=⟨_,rfl⟩
 obtain ⟨W1,hW1⟩:∃W1,(w.alloc (.deferred (some []))).alloc (.loop (rc .ready none))=W1:=⟨_,rfl⟩
 have hsz1:(w.alloc (.deferred (some []))).heap.size=K+1:=by rw [World.size_alloc,hK]
 have hb1:Below w.heap.size w W1:=by
  rw [←hW1]
  exact ((Below.refl _ w).alloc (Nat.le_refl _) _).alloc (by simp) _
 have hB1:Books K (rc .ready none) W1:=by
  refine ⟨?_,?_⟩
  · rw [←hW1,←hsz1]
    exact World.alloc_heap_new _ _
  · rw [←hW1]
    refine (Below.heap_alloc _ _ _ (by rw [hsz1];omega)).trans ?_
    rw [←hK]
    exact World.alloc_heap_new w _
 have hI1:I [] W1:=by
  rw [←hW1]
  exact hI.alloc _ (hI.alloc _ h0)
 rw [hK] at hI hIx hAx hassign hbody hdone hstop hKb
 have hown:∀{s:List α} {A B:World},I s A→Below A.heap.size A B→I s B:=fun hs hb=>hI _ _ _ none hs ⟨hb.os,hb.tape,hb.output,hb.size,fun k hk _=>hb.block k hk⟩ (fun r e=>by cases e)
 refine ⟨K+1,[{target:=.collected K,args:=#[]}],W1,{target:=.fn (.func gf) lb,args:=#[.func (.yield (K+1)) #[] #[]]},W1,gf,#[.func (.yield (K+1)) #[] #[]]++lb,W1,?_,?_,?_,?_,fun _=>h1,?_⟩
 · have:=run_enterLoop_outer (P:=Tryz.prog) (w:=w) fn a.tmps ps assign body
   rw [hK] at this
   rw [←hW1,hrc]
   exact this
 · simp only [resolve,hg]
   simp [go_sem]
 · intro f' hf'
   trivial
 · simp [invoke,go_sem,eg]
 · refine (hseq (K+1) (fun pre W=>I pre W∧Books K (rc .ready none) W) (fun W=>Ix W∧Books K (rc .done (some .ret)) W) W1 hb1 (fun s A B h hb=>⟨hown h.1 hb,h.2.under hb⟩) ?_ ⟨hI1,hB1⟩).mono ?_
   · rintro pre x W ⟨hi,hB⟩ hGx
     have hy:=run_yield (P:=Tryz.prog) (args:=encs x) hB.loop (by rw [hrc];exact hps x)
     rw [hrc] at hy
     refine ⟨fn,_,assign,body,hy,roundIn_of_wpIn hfn (hassign _ pre x W _ hi hGx ?_)⟩
     clear hy
     intro a' Wa hka hkpa hax
     have hBa:=hB.keeps hka
     refine ⟨_,run_beginRound hBa.loop (by rw [hrc]),?_⟩
     have hBb:=hBa.turn {rc .ready none with state:=.busy}
     have hkb:Kp Wa (Wa.putObj (K+1) (.loop {rc .ready none with state:=.busy})):=hKb _ _ _ _ (by omega) hBa.loop rfl
     refine wpIn_mono (hbody _ pre x a' _ ((hAx pre x a').putObj (s:=()) _ hax (by omega) hBa.loop rfl)) ?_
     rintro e a3 W3 hp
     cases e with
     | normal =>
       obtain ⟨hk3,hkp3,hi3⟩:=hp
       have hB3:=hBb.keeps hk3
       refine ⟨_,_,run_endRound (P:=Tryz.prog) none hB3.loop,.inl ⟨rfl,⟨hI.putObj _ hi3 (by omega) hB3.loop rfl,?_⟩,hKt hkpa (hKt (hKt hkb hkp3) (hKb _ _ _ _ (by omega) hB3.loop rfl))⟩⟩
       rw [hrc]
       exact hB3.turn _
     | ret =>
       obtain ⟨hk3,hi3⟩:=hp
       have hB3:=hBb.keeps hk3
       refine ⟨_,_,run_endRound (P:=Tryz.prog) (some .ret) hB3.loop,.inr ⟨rfl,hIx.putObj (s:=()) _ hi3 (by omega) hB3.loop rfl,?_⟩⟩
       rw [hrc]
       exact hB3.turn _
     | exit id=>exact hp.elim
     | goto t=>exact hp.elim
     | panic ch=>exact hp.elim
     | outgrown=>exact hp.elim
   · rintro e W2 ⟨⟨v,rfl⟩,(⟨xs,hS,hi,hB⟩ | ⟨hi,hB⟩)⟩
     · refine ⟨none,W2.putObj (K+1) (.loop {rc .ready none with state:=.exhausted}),?_,hdone _ xs _ (Nat.le_refl _) hS (hI.putObj _ hi (by omega) hB.loop rfl) (hB.turn _).late⟩
       have:=run_endLoop (P:=Tryz.prog) hB.loop (by rw [hrc];simp)
       rw [hrc] at this ⊢
       exact this
     · refine ⟨some .ret,W2.putObj (K+1) (.loop {rc .done (some .ret) with state:=.exhausted}),?_,wpIn_ret (hstop _ _ (Nat.le_refl _) (hIx.putObj (s:=()) _ hi (by omega) hB.loop rfl) (hB.turn _).late)⟩
       have:=run_endLoop (P:=Tryz.prog) hB.loop (by rw [hrc];simp)
       rw [hrc] at this ⊢
       exact this
set_option maxHeartbeats 800000 in
theorem known_mk (A:Option Addr) (n c:Nat) (w:World):Calls Tryz.prog 23 #[.slice A n c] w fun e w'=>e=.returned (.func (.func 55) #[] #[.pointer (some ⟨w.heap.size,0,none⟩)])∧w.alloc (.cells #[.slice A n c] 32)=w':=by
 have hmf:∀(fn:Fn) (first cap:Array Value) (w:World),(Instr.makeFunc fn first cap).run Tryz.prog w=.ok (.func fn first cap) w:=fun _ _ _ _=>rfl
 go_enter Tryz.func23,Tryz.ntmps23
 go_wp2
 go_ret
 exact ⟨rfl,rfl⟩
def encA (x:AttrS×Value):Array Value:=#[.agg #[.string x.1.name,.string x.1.value],x.2]
theorem neq_func (f:Fn) (cap:Array Value) (W:World):(Go.binOp .neq 66 (.func f #[] cap) .nilFunc).run Tryz.prog W=.ok (.bool true) W:=by
 have h:(Op.equalIn (9999+1) 66 (.func f #[] cap) .nilFunc).run Tryz.prog W=.ok false W:=by
  unfold Op.equalIn
  simp only [Sem.run_bind,run_underlying Tryz.underlying66,Result.andThen_ok]
  rfl
 simp only [Go.binOp]
 simp [Op.equal,Op.maxDepth,Sem.run_bind,h]
theorem neq_nil (W:World):(Go.binOp .neq 66 .nilFunc .nilFunc).run Tryz.prog W=.ok (.bool false) W:=by
 have h:(Op.equalIn (9999+1) 66 .nilFunc .nilFunc).run Tryz.prog W=.ok true W:=by
  unfold Op.equalIn
  simp only [Sem.run_bind,run_underlying Tryz.underlying66,Result.andThen_ok]
  rfl
 simp only [Go.binOp]
 simp [Op.equal,Op.maxDepth,Sem.run_bind,h]
structure KnG (L:List AttrS) (pre:List (AttrS×Value)) (x:AttrS×Value) (W:World):Prop where
 is:known x.1=true
 rdr:RdrV (tx x.1.name) x.2 W
 next:∃j,L[j]? = some x.1∧pre.map (·.1)=(L.take j).filter known
attribute [local go_sem] Oper.semAt_some
set_option maxRecDepth 100000 in
set_option maxHeartbeats 3200000 in
theorem known_tells (n base gb:Nat) (hn:1≤n) (A:Option Addr) (k c:Nat) (L:List AttrS) (w:World) (h:AttrsV w base (.slice A k c) L) (hbase:base≤w.heap.size) (h7:7≤base) (hE:Env w) (hgb:w.cell? ⟨gb,0,none⟩=some (.slice A k c)) (hbig:L.length≤140737488355328) :
 Tells n 55 #[.pointer (some ⟨gb,0,none⟩)] encA (KnG L) (fun A B=>Below base A B) (fun xs=>xs.map (·.1)=L.filter known) w:=by
 intro l J Jx W hW hJ hY h0
 obtain ⟨A',c',e1,hcap,hmax,-⟩:=h.form
 injection e1 with e1 e2 e3
 subst e1 e2 e3
 have hc0:=(hW.cell (p:=⟨gb,0,none⟩) (block_lt_of_cell hgb)).trans hgb
 have HV:=Lib.hid h
 have HY:=Lib.hid hY
 have HJ:=Lib.hid (And.intro h0 hJ)
 have HB:=Lib.hid (And.intro (hW.mono hbase) hbase)
 have HEN:Hid (∀W',Below base w W'→Env W'∧7≤W'.heap.size):=Lib.hid fun W' hb=>⟨hE.low hb h7,Nat.le_trans h7 (Nat.le_trans hbase hb.size)⟩
 obtain ⟨m,hm⟩:∃m,L.length=m:=⟨_,rfl⟩
 rw [hm] at hcap hc0 hbig
 have HL:=Lib.hid hm
 clear h hE hgb h0 hJ hY hW hm hmax h7
 refine callsIn_of_wp Tryz.func55 rfl trivial ?_ rfl
 simp only [Tryz.ntmps55,List.size_toArray,List.length_cons,List.length_nil,Nat.reduceAdd,Nat.reduceSub,Array.replicate_succ,Array.replicate_zero,List.push_toArray,List.append_toArray,List.nil_append,List.cons_append]
 gi_wp2
 gi_loopw [8] (fun i wr=>∃j:Nat,j≤m∧i=.int .i64 j∧(∃pre:List (AttrS×Value),pre.map (·.1)=(L.take j).filter known∧J pre wr)∧Below base w wr) (fun i _=>m - (intOf i).toNat)
 case atStart=>exact ⟨0,Nat.zero_le _,rfl,⟨[],by simp,HJ.out.1⟩,HB.out.1⟩
 case round =>
  obtain ⟨j,hj,rfl,⟨pre,hpre,hJs⟩,hbw⟩:=hrel
  by_cases hlt:j<m
  · have hlt':j<L.length:=by rw [HL.out];exact hlt
    obtain ⟨ad,c2,e1,had,x0,x1⟩:=(HV.out.below hbw).at_ hlt'
    injection e1 with e1 e2 e3
    clear e2 e3
    subst e1
    have hLj:=getD_of (L:=L) (i:=j) hlt'
    obtain ⟨a,ha⟩:∃a,L.getD j default=a:=⟨_,rfl⟩
    rw [ha] at x0 x1 hLj
    obtain ⟨nm,vl⟩:=a
    have x0:wr.cell? (ad.add (j * 2))=some (.string nm):=x0
    have x1:wr.cell? ⟨(ad.add (j * 2)).block,(ad.add (j * 2)).off+1,none⟩=some (.string vl):=x1
    have hba:Below wr.heap.size wr (wr.alloc (.cells #[.string nm,.string vl] 65)):=(Below.refl _ wr).alloc (Nat.le_refl _) _
    have hsz:base≤wr.heap.size:=Nat.le_trans HB.out.2 hbw.size
    have HRO:=Lib.hid (readerOf_any nm (wr.alloc (.cells #[.string nm,.string vl] 65)) ((HEN.out wr hbw).1.under hba) (Nat.le_trans (HEN.out wr hbw).2 hba.size))
    have HP:=Lib.hid (And.intro hpre (And.intro hJs (And.intro hLj (And.intro hbw (And.intro hba hsz)))))
    have HNW:Hid (Whole (wr.alloc (.cells #[.string nm,.string vl] 65)) wr.heap.size 65 #[.string nm,.string vl]):=Lib.hid (Whole.new _ _ _)
    have hj0:(0:Int)≤(j:Int):=by omega
    have hj1:(j:Int)<(m:Int):=by omega
    clear ha had hlt' hba hbw hJs hpre hLj hsz
    cases hkn:known ⟨nm,vl⟩ with
    | false =>
      have HK:Hid (knownN.contains (tx nm)=false):=Lib.hid hkn
      have HX0:Hid (∀w2,Below (wr.alloc (.cells #[.string nm,.string vl] 65)).heap.size (wr.alloc (.cells #[.string nm,.string vl] 65)) w2→(∃pre':List (AttrS×Value),pre'.map (·.1)=(L.take (j+1)).filter known∧J pre' w2)∧Below base w w2):=Lib.hid fun w2 hb2 =>
       ⟨⟨pre,by rw [take_known HP.out.2.2.1,hkn,HP.out.1];simp,HJ.out.2 _ _ _ (HJ.out.2 _ _ _ HP.out.2.1 HP.out.2.2.2.2.1) hb2⟩,(HP.out.2.2.2.1.trans (HP.out.2.2.2.2.1.mono HP.out.2.2.2.2.2)).trans (hb2.mono (Nat.le_trans HP.out.2.2.2.2.2 HP.out.2.2.2.2.1.size))⟩
      clear hkn
      gi_wp2_with (refine ⟨trivial,?_⟩;gi_at_call 56;go_must (refine (callsIn_wide.2 HRO.out).mono ?_);rintro e w2 ⟨rv,rfl,hrv,hb2⟩;obtain rfl:rv=.nilFunc:=(by rcases hrv.nil with ⟨-,h⟩ | ⟨h,-⟩;exact h;rw [HK.out] at h;cases h);have HX:=Lib.hid (HX0.out w2 hb2);clear hrv hb2;have hq:=neq_nil)
      refine ⟨fun f h=>(by cases h),?_⟩
      gi_wp2
      go_roundw
      case rel=>exact ⟨j+1,by omega,by simp,HX.out.1,HX.out.2⟩
      case measure=>simp [intOf];omega
    | true =>
      have HK:Hid (knownN.contains (tx nm)=true):=Lib.hid hkn
      have HKN:=Lib.hid hkn
      have HX0:Hid (∀w2,Below (wr.alloc (.cells #[.string nm,.string vl] 65)).heap.size (wr.alloc (.cells #[.string nm,.string vl] 65)) w2→J pre w2∧Below base w w2):=Lib.hid fun w2 hb2 =>
       ⟨HJ.out.2 _ _ _ (HJ.out.2 _ _ _ HP.out.2.1 HP.out.2.2.2.2.1) hb2,(HP.out.2.2.2.1.trans (HP.out.2.2.2.2.1.mono HP.out.2.2.2.2.2)).trans (hb2.mono (Nat.le_trans HP.out.2.2.2.2.2 HP.out.2.2.2.2.1.size))⟩
      clear hkn
      gi_wp2_with (first | (refine ⟨trivial,?_⟩;gi_at_call 56;go_must (refine (callsIn_wide.2 HRO.out).mono ?_);rintro e w2 ⟨rv,rfl,hrv,hb2⟩;obtain ⟨f,cap,rfl⟩:∃f cap,rv=.func f #[] cap:=(by rcases hrv.nil with ⟨h,-⟩ | ⟨-,h⟩;rw [HK.out] at h;cases h;exact h);have HX:=Lib.hid (HX0.out w2 hb2);have HN2:=Lib.hid (HNW.out.under hb2);have y0:w2.cell? ⟨wr.heap.size,0,none⟩=some (.string nm):=HN2.out.cell 0;have y1:w2.cell? ⟨wr.heap.size,1,none⟩=some (.string vl):=HN2.out.cell 1;have HG:Hid (KnG L pre (⟨nm,vl⟩,.func f #[] cap) w2):=Lib.hid ⟨HKN.out,hrv,j,HP.out.2.2.1,HP.out.1⟩;have HXX:Hid ((pre++[((⟨nm,vl⟩:AttrS),Value.func f #[] cap)]).map (·.1)=(L.take (j+1)).filter known):=Lib.hid (by rw [take_known HP.out.2.2.1,HKN.out,List.map_append,HP.out.1];simp);obtain ⟨fn,tmps,assign,body,hy,hR⟩:=HY.out pre (⟨nm,vl⟩,.func f #[] cap) w2 HX.out.1 HG.out;simp only [encA] at hy;have hq:=neq_func f cap;clear hrv hb2) | fail)
      refine hR.mono ?_
      rintro e W3 (⟨rfl,hJ3,hk3⟩ | ⟨rfl,hJx3⟩)
      · have HX3:Hid (∃pre':List (AttrS×Value),pre'.map (·.1)=(L.take (j+1)).filter known∧J pre' W3):=Lib.hid ⟨_,HXX.out,hJ3⟩
        have HB3:Hid (Below base w W3):=Lib.hid (HX.out.2.trans hk3)
        clear hJ3 hk3
        gi_wp2
        go_roundw
        case rel=>exact ⟨j+1,by omega,by simp,HX3.out,HB3.out⟩
        case measure=>simp [intOf];omega
      · gi_wp2
        refine bodyPost_ret (results_none rfl _ _ _) rfl ?_
        exact ⟨⟨_,rfl⟩,.inr hJx3⟩
  · obtain rfl:j=m:=by omega
    have HX:Hid (∃xs:List (AttrS×Value),xs.map (·.1)=L.filter known∧J xs wr):=Lib.hid ⟨pre,by rw [hpre,List.take_of_length_le (by rw [HL.out];exact Nat.le_refl _)],hJs⟩
    clear hpre hJs
    gi_wp2
    go_end0
    exact ⟨⟨_,rfl⟩,.inl HX.out⟩
theorem cells_put {W:World} {l:Nat} {o:Obj} (o':Obj) (hl:W.heap[l]? = some o) (ho:o.isCells=false):Cells W (W.putObj l o'):=cells_other (grownBy_putObj' W l o') (fun r e=>by cases e;exact ⟨o,hl,ho⟩)
section
end
end Go.Proofs.YtgnpckelbokniaaGreatDoor
namespace Go.Proofs.YtgnpckelbokniaaGreatDoor
open Go.RowKit
set_option linter.unusedVariables false
set_option linter.unusedSimpArgs false
theorem eqSA (W:World) (a b c d:ByteArray):(Op.equalIn 10000 65 (.agg #[.string a,.string b]) (.agg #[.string c,.string d])).run Tryz.prog W=.ok ((a.toList == c.toList) && (b.toList == d.toList)) W:=by
 go_simp
 by_cases h1:a.toList=c.toList <;> by_cases h2:b.toList=d.toList <;> simp [h1,h2]
theorem guardSA:Tryz.prog.eqGuardType Tryz.prog.depth 65=false:=by kernel_rfl
set_option maxHeartbeats 1600000 in
theorem slEqual_any (v1 v2:Value) (L M:List AttrS) (w:World) (h1:AttrsV w w.heap.size v1 L) (h2:AttrsV w w.heap.size v2 M):Calls Tryz.prog 25 #[v1,v2] w (SameB w L M):=by
 obtain ⟨A1,c1,rfl,hc1,hm1,_⟩:=h1.form
 obtain ⟨A2,c2,rfl,hc2,hm2,_⟩:=h2.form
 have H1:=Lib.hid h1
 have H2:=Lib.hid h2
 clear h1 h2
 obtain ⟨n,hn⟩:∃n,L.length=n:=⟨_,rfl⟩
 obtain ⟨m,hm⟩:∃m,M.length=m:=⟨_,rfl⟩
 have HN:=Lib.hid hn
 have HM:=Lib.hid hm
 rw [hn] at hc1
 rw [hm] at hc2
 rw [hn,hm]
 unfold maxLen at hm1 hm2
 clear hn hm
 by_cases hnm:n=m
 · subst hnm
   have hz:((n:Int) == (n:Int))=true:=by simp
   go_enter Tryz.func25,Tryz.ntmps25
   go_wp2
   go_loopw [13] (fun s13 wr=>∃k:Nat,k≤n∧s13=.int .i64 k∧(∀j,j<k→L[j]? = M[j]?)∧Below w.heap.size w wr) (fun s13 _=>n - (intOf s13).toNat)
   case atStart=>exact ⟨0,Nat.zero_le _,rfl,(fun j hj=>by omega),Below.refl _ w⟩
   case round =>
    obtain ⟨k,hk,rfl,hsame,hb⟩:=hrel
    have HS:=Lib.hid (And.intro hsame hb)
    clear hsame
    by_cases hlt:k<n
    · obtain ⟨ad1,c1',e1,b1,x0,x1⟩:=H1.out.at_ (i:=k) (by rw [HN.out];exact hlt)
      obtain ⟨ad2,c2',e2,b2,y0,y1⟩:=H2.out.at_ (i:=k) (by rw [HM.out];exact hlt)
      injection e1 with e1 e1n e1c;clear e1n e1c
      injection e2 with e2 e2n e2c;clear e2n e2c
      subst e1 e2
      have x0':=(hb.cell (p:=ad1.add (k * 2)) (by rw [add_block];exact b1)).trans x0
      have x1':=(hb.cell (p:=⟨(ad1.add (k * 2)).block,(ad1.add (k * 2)).off+1,none⟩) (by show (ad1.add (k * 2)).block<_;rw [add_block];exact b1)).trans x1
      have y0':=(hb.cell (p:=ad2.add (k * 2)) (by rw [add_block];exact b2)).trans y0
      have y1':=(hb.cell (p:=⟨(ad2.add (k * 2)).block,(ad2.add (k * 2)).off+1,none⟩) (by show (ad2.add (k * 2)).block<_;rw [add_block];exact b2)).trans y1
      have gL:=getD_of (L:=L) (i:=k) (by rw [HN.out];exact hlt)
      have gM:=getD_of (L:=M) (i:=k) (by rw [HM.out];exact hlt)
      obtain ⟨a,ha⟩:∃a,L.getD k default=a:=⟨_,rfl⟩
      obtain ⟨b,hbb⟩:∃b,M.getD k default=b:=⟨_,rfl⟩
      rw [ha] at x0' x1' gL
      rw [hbb] at y0' y1' gM
      have HG:=Lib.hid (And.intro gL gM)
      have hk0:(0:Int)≤(k:Int):=by omega
      have hk1:(k:Int)<(n:Int):=by omega
      clear x0 x1 y0 y1 gL gM ha hbb b1 b2 hb
      by_cases heq:a=b
      · have hq:∀W,(Op.equalIn 10000 65 (.agg #[.string a.name,.string a.value]) (.agg #[.string b.name,.string b.value])).run Tryz.prog W=.ok true W:=fun W=>by rw [eqSA,heq];simp
        have HEQ:=Lib.hid heq
        have hgd:=guardSA
        clear heq
        go_upto_region 6 with fail
        go_quiet (fail)
        go_wp2
        go_roundw
        case rel =>
         refine ⟨k+1,by omega,by go_num,fun j hj=> ?_,below_drewN' HS.out.2 _⟩
         by_cases e:j=k
         · subst e
           rw [HG.out.1,HG.out.2,HEQ.out]
         · exact HS.out.1 j (by omega)
        case measure=>simp [intOf];omega
      · have hq:∀W,(Op.equalIn 10000 65 (.agg #[.string a.name,.string a.value]) (.agg #[.string b.name,.string b.value])).run Tryz.prog W=.ok false W:=fun W=>by
         rw [eqSA]
         congr 1
         rw [←Bool.not_eq_true,Bool.and_eq_true,toList_beq,toList_beq]
         exact fun h=>heq (AttrS.ext' h.1 h.2)
        have HNE:Hid (L≠M):=Lib.hid (fun e=>by rw [e] at HG;have:=HG.out.1.symm.trans HG.out.2;exact heq (Option.some.inj this))
        have hgd:=guardSA
        clear heq
        go_upto_region 6 with fail
        go_quiet (fail)
        go_wp2
        go_ret
        exact ⟨false,rfl,⟨fun e=>(by cases e),fun e=>(HNE.out e).elim⟩,below_drewN' HS.out.2 _⟩
    · obtain rfl:k=n:=by omega
      have HEQ:Hid (L=M):=Lib.hid (list_same (by rw [HN.out,HM.out]) (fun j hj=>HS.out.1 j (by rw [HN.out] at hj;exact hj)))
      clear hb
      go_wp2
      go_ret
      exact ⟨true,rfl,⟨fun _=>HEQ.out,fun _=>rfl⟩,HS.out.2⟩
 · have hz:((n:Int) == (m:Int))=false:=by rw [beq_eq_false_iff_ne];omega
   have HNE:Hid (L≠M):=Lib.hid (fun e=>hnm (by rw [←HN.out,←HM.out,e]))
   clear hnm
   go_enter Tryz.func25,Tryz.ntmps25
   go_wp2
   go_ret
   exact ⟨false,rfl,⟨fun e=>(by cases e),fun e=>(HNE.out e).elim⟩,Below.refl _ w⟩
end Go.Proofs.YtgnpckelbokniaaGreatDoor
namespace Go.Proofs.YtgnpckelbokniaaGreatDoor
open Go.RowKit Go.Shelf
set_option linter.unusedVariables false
set_option linter.unusedSimpArgs false
theorem wpListIn_appendE {F:Fence} {n:Nat} {ops:Array Oper} {rest:List Oper} {o:Oper} {a:Act} {w:World} {Q:Exit→Act→World→Prop} {base sz:Nat} {e:TypeId} {v:Value} {rs:List (List Value)} (hgd:o.guard=none) {T:TypeId} {z:Value} {by_:Nat} (s y:Operand) (ho:o.op=.call {callee:=.builtin .append,args:=#[s,y],argTypes:=#[T,T]})
 (hT:Tryz.prog.underlying T=some (.slice e)) (hi:(Tryz.prog.info? e).map (fun i=>(i.zero,i.size,i.bytes))=some (some z,sz,by_)) (hz:z.cells.size=sz) (hsz:0<sz) (hs:a.eval s=v) (hown:Own w base e sz v rs) {g c:Nat} (hy:a.eval y=.slice (some ⟨g,0,none⟩) 1 c) {r:List Value}
 (hg:Whole w g e r.toArray) (hrl:r.length=sz) (hu:∀u∈r,u.oneCell'=true) (h63:(rs.length+1) * by_≤140737488355328) (h64:rs.length+1≤140737488355328) (hbase:base≤w.heap.size)
 (h:∀v' w',Own w' base e sz v' (rs++[r])→w.grownBy w' v.ownBlock→(v'.ownBlock=v.ownBlock∨v'.ownBlock=some w.heap.size)→wpListIn F n Tryz.prog ops Q rest (a.put o.dst v') w'):wpListIn F n Tryz.prog ops Q (o :: rest) a w:=by
 refine wpListIn_plain hgd fun K hK'=> ?_
 obtain ⟨v',w',hrun,h2,h3,h4⟩:=run_appendE o.type hT hi hz hsz hown (c:=c) hg hrl hu h63 h64 hbase
 refine ⟨fun f hf=>by simp [Oper.about,ho,resolve,Target.leads,Sem.run_pure] at hf,?_⟩
 have hx:(o.semAt F.round a.eval).run Tryz.prog w=.ok (.value v') w':=by
  rw [Oper.semAt_plain F _ _ (by rw [ho];intro c hc;cases hc)]
  simp [execOp,ho,resolve,invoke,builtin,hs,hy,hrun,Result.andThen]
 rw [hx]
 exact hK' _ _ (h v' w' h2 h3 h4)
theorem wpListIn_callV {F:Fence} {n:Nat} {ops:Array Oper} {rest:List Oper} {o:Oper} {a:Act} {w:World} {Q:Exit→Act→World→Prop} {f:Nat} {cap:Array Value} {T:Array TypeId} {R:Ending→World→Prop} (hgd:o.guard=none) (x y1 y2:Operand) (ho:o.op=.call {callee:=.value x,args:=#[y1,y2],argTypes:=T})
 (hx:a.eval x=.func (.func f) #[] cap) {u1 u2:Value} (h1:a.eval y1=u1) (h2:a.eval y2=u2) (hF:F.fn f) (hn:F.depth.isSome=true→1≤n) (eg:∀args w,(callFunc f args).run Tryz.prog w=.ok (.enter f args) w)
 (hc:CallsIn F (n - 1) Tryz.prog f (#[u1,u2]++cap) w R) (hr:∀e w',R e w'→∃v,e=.returned v∧wpListIn F n Tryz.prog ops Q rest (a.put o.dst v) w'):wpListIn F n Tryz.prog ops Q (o :: rest) a w:=by
 refine wpListIn_plain hgd fun K hK'=> ?_
 refine ⟨fun f' hf=> ?_,?_⟩
 · simp [Oper.about,ho,resolve,Target.leads,Sem.run_pure,hx,Sem.run_bind,h1,h2,Deferred.ofValue] at hf
   subst hf
   exact hF
 · have hx2:(o.semAt F.round a.eval).run Tryz.prog w=.ok (.enter f (#[u1,u2]++cap)) w:=by
    rw [Oper.semAt_plain F _ _ (by rw [ho];intro c hc;cases hc)]
    simp [execOp,ho,resolve,invoke,hx,h1,h2,Result.andThen,eg,Deferred.ofValue]
   rw [hx2]
   refine ⟨hn,hc.mono fun e w' hw=> ?_⟩
   obtain ⟨v,rfl,hk⟩:=hr e w' hw
   exact hK' _ _ hk
theorem reader_calls (base bm n:Nat) (a:AttrS) (v:Value) (m:MediaS) (cs:List (CodecS×Value)) (vC vE vR vS vY:Value) (w:World) (h:MW base bm n w m cs vC vE vR vS vY) (hE:EnvR w) (hs:a.value.size≤140737488355328) (hn:n≤64) (hr:RdrV (tx a.name) v w) (hk:known a=true) :
 ∃f cap,v=.func (.func f) #[] cap∧(∀args w,(callFunc f args).run Tryz.prog w=.ok (.enter f args) w)∧Calls Tryz.prog f (#[.pointer (some ⟨bm,0,none⟩),.string a.value]++cap) w (RdO base bm (n+1) w (rd rP m a)):=by
 have wide:∀{m':MediaS} {e:Ending} {w':World},RdO base bm n w m' e w'→RdO base bm (n+1) w m' e w':=fun {m' e w'} h=>by
  obtain ⟨h1,⟨cs,vC,vE,vR,vS,vY,hM⟩,h3⟩:=h
  exact ⟨h1,⟨cs,vC,vE,vR,vS,vY,hM.wider (by omega)⟩,h3⟩
 have en : ∀ {f : Nat} {fn : Func} {c : Code}, Tryz.prog.funcs[f]? = some fn → (fn.name == "runtime.NumGoroutine") = false → fn.body = some c → ∀ args w, (callFunc f args).run Tryz.prog w = .ok (.enter f args) w := fun hf hn hb => enters_of hf hn hb
 cases hr with
 | mid hl hv =>
   have e:rd rP m a={m with mid:=a.value}:=by unfold rd;simp only [hl];rw [if_pos trivial]
   rw [e]
   exact ⟨_,_,hv,en Tryz.func114 (by kernel_rfl) rfl,(readMid_any base bm n a.value m cs vC vE vR vS vY w h hs).mono fun _ _ h=>wide h⟩
 | rtpmap hl hv =>
   have e:rd rP m a={m with codecs:=m.codecs++[codecOf rP (tx a.value)]}:=by unfold rd;simp only [hl];rw [if_neg (by decide),if_pos trivial]
   rw [e]
   exact ⟨_,_,hv,en Tryz.func115 (by kernel_rfl) rfl,readCodec_any base bm n a.value m cs vC vE vR vS vY w h hE hs hn⟩
 | fmtp hl hv =>
   have e:rd rP m a={m with codecs:=onLast (fun c=>{c with format:=bs (tl (tx a.value))}) m.codecs}:=by unfold rd;simp only [hl];rw [if_neg (by decide),if_neg (by decide),if_pos trivial]
   rw [e]
   exact ⟨_,_,hv,en Tryz.func116 (by kernel_rfl) rfl,(readFormat_any base bm n a.value m cs vC vE vR vS vY w h hs hn).mono fun _ _ h=>wide h⟩
 | rtcpfb hl hv =>
   have e:rd rP m a={m with codecs:=onLast (fun c=>{c with feedback:=c.feedback++[bs (tl (tx a.value))]}) m.codecs}:=by unfold rd;simp only [hl];rw [if_neg (by decide),if_neg (by decide),if_neg (by decide),if_pos trivial]
   rw [e]
   exact ⟨_,_,hv,en Tryz.func117 (by kernel_rfl) rfl,readFeedback_any base bm n a.value m cs vC vE vR vS vY w h hs hn⟩
 | extmap hl hv =>
   have e:rd rP m a={m with exts:=m.exts++[⟨numP (hd (tx a.value)),bs (tl (tx a.value))⟩]}:=by unfold rd;simp only [hl];rw [if_neg (by decide),if_neg (by decide),if_neg (by decide),if_neg (by decide),if_pos trivial];rfl
   rw [e]
   exact ⟨_,_,hv,en Tryz.func118 (by kernel_rfl) rfl,readExt_any base bm n a.value m cs vC vE vR vS vY w h hE hs hn⟩
 | rid hl hv =>
   have e:rd rP m a={m with rids:=m.rids++[bs (hd (tx a.value))],sending:=decide (tl (tx a.value)=wSend)}:=by unfold rd;simp only [hl];rw [if_neg (by decide),if_neg (by decide),if_neg (by decide),if_neg (by decide),if_neg (by decide),if_pos trivial]
   rw [e]
   exact ⟨_,_,hv,en Tryz.func119 (by kernel_rfl) rfl,readRid_any base bm n a.value m cs vC vE vR vS vY w h hs hn⟩
 | simulcast hl hv =>
   have e:rd rP m a=m:=by unfold rd;simp only [hl];rw [if_neg (by decide),if_neg (by decide),if_neg (by decide),if_neg (by decide),if_neg (by decide),if_neg (by decide),if_pos trivial]
   rw [e]
   exact ⟨_,_,hv,en Tryz.func120 (by kernel_rfl) rfl,(readNothing_any base bm n a.value m cs vC vE vR vS vY w h).mono fun _ _ h=>wide h⟩
 | ssrc hl hv =>
   have e:rd rP m a={m with sources:=m.sources++[srcP (tx a.value)]}:=by unfold rd;simp only [hl];rw [if_neg (by decide),if_neg (by decide),if_neg (by decide),if_neg (by decide),if_neg (by decide),if_neg (by decide),if_neg (by decide),if_pos trivial];rfl
   rw [e]
   exact ⟨_,_,hv,en Tryz.func121 (by kernel_rfl) rfl,readSource_any base bm n a.value m cs vC vE vR vS vY w h hE hs hn⟩
 | crypto hl hv =>
   have e:rd rP m a={m with crypto:=m.crypto++[cryP (tx a.value)]}:=by unfold rd;simp only [hl];rw [if_neg (by decide),if_neg (by decide),if_neg (by decide),if_neg (by decide),if_neg (by decide),if_neg (by decide),if_neg (by decide),if_neg (by decide),if_pos trivial];rfl
   rw [e]
   exact ⟨_,_,hv,en Tryz.func122 (by kernel_rfl) rfl,readCrypto_any base bm n a.value m cs vC vE vR vS vY w h hE hs hn⟩
 | sctpport hl hv =>
   have e:rd rP m a={m with sctp:=numP (tx a.value)}:=by unfold rd;simp only [hl];rw [if_neg (by decide),if_neg (by decide),if_neg (by decide),if_neg (by decide),if_neg (by decide),if_neg (by decide),if_neg (by decide),if_neg (by decide),if_neg (by decide),if_pos trivial];rfl
   rw [e]
   exact ⟨_,_,hv,en Tryz.func123 (by kernel_rfl) rfl,(readSctp_any base bm n a.value m cs vC vE vR vS vY w h hE (by omega)).mono fun _ _ h=>wide h⟩
 | dir k g hl hv hg =>
   have e:rd rP m a={m with dir:=k}:=by
    unfold dirK at hl
    unfold rd
    split at hl
    · next e=>obtain rfl:=Option.some.inj hl;simp only [e];rw [if_neg (by decide),if_neg (by decide),if_neg (by decide),if_neg (by decide),if_neg (by decide),if_neg (by decide),if_neg (by decide),if_neg (by decide),if_neg (by decide),if_neg (by decide),if_pos trivial];rfl
    · split at hl
      · next e=>obtain rfl:=Option.some.inj hl;simp only [e];rw [if_neg (by decide),if_neg (by decide),if_neg (by decide),if_neg (by decide),if_neg (by decide),if_neg (by decide),if_neg (by decide),if_neg (by decide),if_neg (by decide),if_neg (by decide),if_neg (by decide),if_pos trivial]
      · split at hl
        · next e=>obtain rfl:=Option.some.inj hl;simp only [e];rw [if_neg (by decide),if_neg (by decide),if_neg (by decide),if_neg (by decide),if_neg (by decide),if_neg (by decide),if_neg (by decide),if_neg (by decide),if_neg (by decide),if_neg (by decide),if_neg (by decide),if_neg (by decide),if_pos trivial]
        · split at hl
          · next e=>obtain rfl:=Option.some.inj hl;simp only [e];rw [if_neg (by decide),if_neg (by decide),if_neg (by decide),if_neg (by decide),if_neg (by decide),if_neg (by decide),if_neg (by decide),if_neg (by decide),if_neg (by decide),if_neg (by decide),if_neg (by decide),if_neg (by decide),if_neg (by decide),if_pos trivial]
          · cases hl
   rw [e]
   exact ⟨_,_,hv,en Tryz.func124 (by kernel_rfl) rfl,(readDir_any base bm n g k a.value m cs vC vE vR vS vY w h (hg.cell 0)).mono fun _ _ h=>wide h⟩
 | other hl hv =>
   have hk:knownN.contains (tx a.name)=true:=hk
   rw [hl] at hk
   cases hk
theorem read_end (n:Nat) (fn:Func) (hres:fn.results=#[ResultVar.cell 2 28,ResultVar.cell 3 35]) {R:Ending→World→Prop} {W:World} {D b2 b3:Nat} {M:Array Value} {er:Int} (hM:M.size=11) (h2:Whole W b2 28 M) (h3:Whole W b3 35 #[.int .i64 er]) (hK:W.heap[D]? = some (.deferred (some [])))
 (tmps:Array Value) (ht2:tmps.getD 2 undef=.pointer (some ⟨b2,0,none⟩)) (ht3:tmps.getD 3 undef=.pointer (some ⟨b3,0,none⟩)) (hR:R (.returned (.tuple #[.agg M,.int .i64 er])) (W.putObj D (.deferred none))) :
 postM n fn R .ret {tmps:=tmps,defers:=[{target:=.collected D,args:=#[]}]} W:=by
 refine ⟨by simp,.inl ⟨_,_,rfl,run_takeDeferred hK,?_⟩⟩
 have hk:=cells_put (.deferred none) hK rfl
 have h2':=hk _ _ _ h2
 have h3':=(hk _ _ _ h3).cell 0
 refine ⟨.tuple #[.agg M,.int .i64 er],?_,hR⟩
 have ht2':tmps[2]?.getD undef=.pointer (some ⟨b2,0,none⟩):=by simpa using ht2
 have ht3':tmps[3]?.getD undef=.pointer (some ⟨b3,0,none⟩):=by simpa using ht3
 have hl:(loadVar 28 ⟨b2,0,none⟩).run Tryz.prog (W.putObj D (.deferred none))=.ok (.agg M) (W.putObj D (.deferred none)):=run_loadVar_row (P:=Tryz.prog) _ b2 _ 28 M (0,0) _ h2' Tryz.underlying28 rfl (by rw [Tryz.sizeMedia,hM])
 have hl3:(loadVar 35 ⟨b3,0,none⟩).run Tryz.prog (W.putObj D (.deferred none))=.ok (.int .i64 er) (W.putObj D (.deferred none)):=by
  have h3'':(W.putObj D (.deferred none)).cell? ⟨b3,0,none⟩=some (.int .i64 er):=h3'
  simp [loadVar,go_sem,h3'']
 simp [results,hres,ht2',ht3',asAddr,hl,hl3]
theorem puts_others (g:Nat):∀(L:List Value) (i:Nat) (W:World),Go.KeepsOthers W (puts W g L i)
 | [],_,W=>Go.KeepsOthers.refl W
 | u :: r,i,W=>(Go.KeepsOthers.setCell W ⟨g,i,none⟩ u).trans (puts_others g r (i+1) _)
theorem five_new (w:World) (P:Array Value):Below w.heap.size w (((((w.alloc (.cells P 34)).alloc (.cells zeroM 28)).alloc (.cells #[.int .i64 0] 35)).alloc (.cells zeroM 28)).alloc (.cells #[.slice none 0 0] 32)) ∧
 Whole (((((w.alloc (.cells P 34)).alloc (.cells zeroM 28)).alloc (.cells #[.int .i64 0] 35)).alloc (.cells zeroM 28)).alloc (.cells #[.slice none 0 0] 32)) w.heap.size 34 P ∧
 Whole (((((w.alloc (.cells P 34)).alloc (.cells zeroM 28)).alloc (.cells #[.int .i64 0] 35)).alloc (.cells zeroM 28)).alloc (.cells #[.slice none 0 0] 32)) (w.heap.size+1) 28 zeroM ∧
 Whole (((((w.alloc (.cells P 34)).alloc (.cells zeroM 28)).alloc (.cells #[.int .i64 0] 35)).alloc (.cells zeroM 28)).alloc (.cells #[.slice none 0 0] 32)) (w.heap.size+2) 35 #[.int .i64 0] ∧
 Whole (((((w.alloc (.cells P 34)).alloc (.cells zeroM 28)).alloc (.cells #[.int .i64 0] 35)).alloc (.cells zeroM 28)).alloc (.cells #[.slice none 0 0] 32)) (w.heap.size+3) 28 zeroM ∧
 Whole (((((w.alloc (.cells P 34)).alloc (.cells zeroM 28)).alloc (.cells #[.int .i64 0] 35)).alloc (.cells zeroM 28)).alloc (.cells #[.slice none 0 0] 32)) (w.heap.size+4) 32 #[.slice none 0 0]:=by
 have sz:∀(W:World) (o:Obj) (k:Nat),W.heap.size=w.heap.size+k→(W.alloc o).heap.size=w.heap.size+(k+1):=fun W o k h=>by rw [World.size_alloc,h];omega
 have s1:=sz w (.cells P 34) 0 rfl
 have s2:=sz _ (.cells zeroM 28) 1 s1
 have s3:=sz _ (.cells #[.int .i64 0] 35) 2 s2
 have s4:=sz _ (.cells zeroM 28) 3 s3
 have n1:=Whole.new (w.alloc (.cells P 34)) 28 zeroM
 rw [s1] at n1
 have n2:=Whole.new ((w.alloc (.cells P 34)).alloc (.cells zeroM 28)) 35 #[.int .i64 0]
 rw [s2] at n2
 have n3:=Whole.new (((w.alloc (.cells P 34)).alloc (.cells zeroM 28)).alloc (.cells #[.int .i64 0] 35)) 28 zeroM
 rw [s3] at n3
 have n4:=Whole.new ((((w.alloc (.cells P 34)).alloc (.cells zeroM 28)).alloc (.cells #[.int .i64 0] 35)).alloc (.cells zeroM 28)) 32 #[.slice none 0 0]
 rw [s4] at n4
 refine ⟨?_,((((Whole.new w _ _).alloc _).alloc _).alloc _).alloc _,(((n1.alloc _).alloc _).alloc _),((n2.alloc _).alloc _),n3.alloc _,n4⟩
 exact (((((Below.refl _ w).alloc (Nat.le_refl _) _).alloc (by rw [s1];omega) _).alloc (by rw [s2];omega) _).alloc (by rw [s3];omega) _).alloc (by rw [s4];omega) _
set_option maxHeartbeats 1600000 in
theorem read_last {w W:World} {D:Nat} {P:Array Value} {n:Nat} {m:MediaS} {cs:List (CodecS×Value)} {vC vE vR vS vY:Value} (hlow:Below w.heap.size w W) (hres:Whole W (w.heap.size+1) 28 zeroM) (herr:Whole W (w.heap.size+2) 35 #[.int .i64 0]) (hK:W.heap[D]? = some (.deferred (some []))) :
 (∀W',W'=(puts W (w.heap.size+1) [.int .i64 0,.int .i64 0,.string ⟨#[]⟩,.int .i64 0,.slice none 0 0,.slice none 0 0,.slice none 0 0,.bool false,.slice none 0 0,.slice none 0 0,.int .i64 0] 0).setCell ⟨w.heap.size+2,0,none⟩ (.int .i64 2) →
   Below w.heap.size w W'∧Whole W' (w.heap.size+1) 28 zeroM∧Whole W' (w.heap.size+2) 35 #[.int .i64 2]∧W'.heap[D]? = some (.deferred (some []))) ∧
 (MW w.heap.size (w.heap.size+3) n W m cs vC vE vR vS vY→∀W',W'=(puts W (w.heap.size+1) [.int .i64 m.kind,.int .i64 m.port,.string m.mid,.int .i64 m.dir,vC,vE,vR,.bool m.sending,vS,vY,.int .i64 m.sctp] 0).setCell ⟨w.heap.size+2,0,none⟩ (.int .i64 0) →
   Below w.heap.size w W'∧Whole W' (w.heap.size+1) 28 (mcell m vC vE vR vS vY)∧Whole W' (w.heap.size+2) 35 #[.int .i64 0]∧W'.heap[D]? = some (.deferred (some []))∧MW w.heap.size (w.heap.size+3) n W' m cs vC vE vR vS vY):=by
 refine ⟨?_,fun hM=> ?_⟩
 · rintro W' rfl
   exact ⟨(hlow.trans (puts_below (by omega) _ _ _)).setCell (p:=⟨w.heap.size+2,0,none⟩) (by show w.heap.size≤w.heap.size+2;omega) _,
    (puts_zero hres).far (p:=⟨w.heap.size+2,0,none⟩) (by show w.heap.size+1≠w.heap.size+2;omega) _,(puts_far (by omega) _ _ _ herr).set 0 _,
    ((puts_others _ _ _ _).trans (Go.KeepsOthers.setCell _ _ _)).same _ _ hK rfl⟩
 · rintro W' rfl
   refine ⟨(hlow.trans (puts_below (by omega) _ _ _)).setCell (p:=⟨w.heap.size+2,0,none⟩) (by show w.heap.size≤w.heap.size+2;omega) _,
    (puts_zero hres).far (p:=⟨w.heap.size+2,0,none⟩) (by show w.heap.size+1≠w.heap.size+2;omega) _,(puts_far (by omega) _ _ _ herr).set 0 _,
    ((puts_others _ _ _ _).trans (Go.KeepsOthers.setCell _ _ _)).same _ _ hK rfl,hM.keepT ?_ ?_⟩
   · exact (puts_far (by omega) _ _ _ hM.box).far (p:=⟨w.heap.size+2,0,none⟩) (by show w.heap.size+3≠w.heap.size+2;omega) _
   · intro g t ds h1 h2 hw
     exact (puts_far (hw.ne hres h1) _ _ _ hw).far (p:=⟨w.heap.size+2,0,none⟩) (hw.ne herr h2) _
theorem not_isM {p:PartS} {m:MediaS} (hm:readM rP p=m) (hn:¬IsM p m):∀m',TypedM m'→¬IsM p m':=fun m' ht h=>hn (by rw [←hm,IsM.read rP_law h ht];exact h)
attribute [local go_sem] Oper.semAt_some
set_option maxHeartbeats 6400000 in
set_option maxRecDepth 100000 in
theorem read_any (p:PartS) (vp:Value) (w:World) (h:AttrsV w w.heap.size vp p.attrs) (hz:SizR p) (hE:EnvR w) (h7:7≤w.heap.size) :
 Calls Tryz.prog 9 #[.agg #[.string p.line,.string p.conn,vp]] w (ReadO p w):=by
 obtain ⟨A,c,rfl,hc,hmx,-⟩:=h.form
 obtain ⟨n,hn⟩:∃n,p.attrs.length=n:=⟨_,rfl⟩
 rw [hn]
 rw [hn] at h hc
 have HV:=Lib.hid h
 have HZ:=Lib.hid hz
 have HEN:=Lib.hid hE
 have H7:=Lib.hid h7
 obtain ⟨ln,hln⟩:∃x,p.line=x:=⟨_,rfl⟩
 obtain ⟨cn,hcn⟩:∃x,p.conn=x:=⟨_,rfl⟩
 have HLN:=Lib.hid (And.intro hln hcn)
 rw [hln,hcn]
 clear h hz hE h7 hn hln hcn hc hmx
 refine calls_marks 5 Tryz.func9 rfl ?_
 simp only [Tryz.ntmps9,List.size_toArray,List.length_cons,List.length_nil,Nat.reduceAdd,Nat.reduceSub,Array.replicate_succ,Array.replicate_zero,List.push_toArray,List.append_toArray,List.nil_append,List.cons_append]
 go_upto_region 3 with fail
 simp only [Nat.add_assoc,Nat.reduceAdd]
 have H0:=Lib.hid (five_new w #[.string ln,.string cn,.slice A n c])
 unfold zeroM at H0
 generalize (((((w.alloc (.cells #[.string ln,.string cn,.slice A n c] 34)).alloc (.cells #[.int .i64 0,.int .i64 0,.string ⟨#[]⟩,.int .i64 0,.slice none 0 0,.slice none 0 0,.slice none 0 0,.bool false,.slice none 0 0,.slice none 0 0,.int .i64 0] 28)).alloc (.cells #[.int .i64 0] 35)).alloc (.cells #[.int .i64 0,.int .i64 0,.string ⟨#[]⟩,.int .i64 0,.slice none 0 0,.slice none 0 0,.slice none 0 0,.bool false,.slice none 0 0,.slice none 0 0,.int .i64 0] 28)).alloc (.cells #[.slice none 0 0] 32))=W0 at *
 have e0:W0.cell? ⟨w.heap.size,0,none⟩=some (.string ln):=H0.out.2.1.cell 0
 have HRL:Hid (Calls Tryz.prog 22 #[.pointer (some ⟨w.heap.size+3,0,none⟩),.string ln] W0 (RdO w.heap.size (w.heap.size+3) 0 W0 (startM rP (tx ln)))):=Lib.hid
  (readLine_any w.heap.size (w.heap.size+3) 0 ln MediaS.zero [] _ _ _ _ _ W0 (MW.zero H0.out.2.2.2.2.1 (by omega)) (HEN.out.under H0.out.1) (by have:=HZ.out.line;rw [HLN.out.1] at this;omega) rfl H7.out)
 go_upto_region 4 with (go_at_call 22;(with_reducible refine HRL.out.mono ?_);rintro e w1 ⟨rfl,hm1,hr1⟩;have H1:=Lib.hid (And.intro hm1 hr1);clear hm1 hr1;dsimp only)
 have HRI:Hid (RI w #[.string ln,.string cn,.slice A n c] (startM rP (tx ln)) [] w1):=Lib.hid
  ⟨H0.out.1.trans H1.out.2.low,H1.out.2.kept _ _ _ H0.out.2.1 (by decide) (by decide) (by decide) (by decide) (by decide) (by omega),H1.out.2.kept _ _ _ H0.out.2.2.1 (by decide) (by decide) (by decide) (by decide) (by decide) (by omega),H1.out.2.kept _ _ _ H0.out.2.2.2.1 (by decide) (by decide) (by decide) (by decide) (by decide) (by omega),
   H1.out.1,⟨_,H1.out.2.kept _ _ _ H0.out.2.2.2.2.2 (by decide) (by decide) (by decide) (by decide) (by decide) (by omega),Own.nil _ _ _ _⟩,by simp⟩
 clear HRL H1 e0 H0
 have e2:w1.cell? ⟨w.heap.size,2,none⟩=some (.slice A n c):=HRI.out.part.cell 2
 have HKM:=Lib.hid (known_mk A n c w1)
 go_wp2_with (go_at_call 23;(with_reducible refine HKM.out.mono ?_);rintro e w2 ⟨rfl,rfl⟩;dsimp only)
 have hb2:Below w1.heap.size w1 (w1.alloc (.cells #[.slice A n c] 32)):=(Below.refl _ w1).alloc (Nat.le_refl _) _
 have HR2:=Lib.hid (HRI.out.under hb2)
 have HGK:Hid ((w1.alloc (.cells #[.slice A n c] 32)).cell? ⟨w1.heap.size,0,none⟩=some (.slice A n c)):=Lib.hid ((Whole.new _ _ _).cell 0)
 clear hb2 HRI HKM e2
 generalize w1.alloc (.cells #[.slice A n c] 32)=W2 at *
 generalize w1.heap.size=gk at *
 obtain ⟨m0,hm0⟩:∃m,startM rP (tx ln)=m:=⟨_,rfl⟩
 rw [hm0] at HR2
 have HM0:=Lib.hid hm0
 clear hm0
 obtain ⟨P,hP⟩:∃P:Array Value,#[.string ln,.string cn,.slice A n c]=P:=⟨_,rfl⟩
 have HP:=Lib.hid hP
 rw [hP] at HR2
 clear hP
 have HSZ:Hid (w.heap.size≤W2.heap.size):=Lib.hid HR2.out.low.size
 refine (wpIn_wide (n:=5)).1 ?_
 apply range_told (α:=AttrS×Value) (encs:=encA) (G:=KnG p.attrs) (Kp:=fun A B=>Below w.heap.size A B) (S:=fun xs=>xs.map (·.1)=p.attrs.filter known) (by decide) (gf:=55) (lb:=#[.pointer (some ⟨gk,0,none⟩)]) rfl (enters_of Tryz.func55 (by kernel_rfl) rfl)
  (known_tells 4 w.heap.size gk (by decide) A n c p.attrs W2 (HV.out.below HR2.out.low) HSZ.out H7.out (HEN.out.env.low HR2.out.low H7.out) HGK.out HZ.out.len)
  (fun h k=>h.trans k) (fun W l o o' hl ho hc=>(Below.refl _ W).grown (grownBy_putObj' W l o') (by have:=(Array.getElem?_eq_some_iff.1 ho).1;have:=HSZ.out;omega) (fun k e=>by cases e;exact Nat.le_trans HSZ.out hl)) (fun _=>rfl)
  (fun pre W=>RI w P m0 (pre.map (·.1)) W)
  (fun W=>Below w.heap.size w W∧Whole W (w.heap.size+1) 28 zeroM∧Whole W (w.heap.size+2) 35 #[.int .i64 2]∧64<(p.attrs.filter known).length)
  (fun s A B row hs hg hr=>hs.grown HSZ.out hg hr)
  (fun s A B row hs hg hr=>⟨hs.1.grown hg hs.1.size (fun r e=>Nat.le_trans HSZ.out (hr r e).1),cells_other hg (fun r e=>(hr r e).2) _ _ _ hs.2.1,cells_other hg (fun r e=>(hr r e).2) _ _ _ hs.2.2.1,hs.2.2.2⟩)
  HR2.out
  (fun pre x a' W=>∃g6,a'={tmps:=#[.agg #[.string ln,.string cn,.slice A n c],.pointer (some ⟨w.heap.size,0,none⟩),.pointer (some ⟨w.heap.size+1,0,none⟩),.pointer (some ⟨w.heap.size+2,0,none⟩),.pointer (some ⟨w.heap.size+3,0,none⟩),.pointer (some ⟨w.heap.size+4,0,none⟩),.pointer (some ⟨g6,0,none⟩),x.2,undef,undef,.pointer (some ⟨w.heap.size,0,none⟩),.string ln,.tuple #[],.pointer (some ⟨w.heap.size,2,none⟩),.slice A n c,.func (.func 55) #[] #[.pointer (some ⟨gk,0,none⟩)],.agg #[.string x.1.name,.string x.1.value],x.2,undef,undef,undef,undef,undef,undef,undef,undef,undef,undef,undef,undef,undef,undef,undef,undef,undef,undef,undef,undef,undef,undef,undef,undef,undef,undef,undef,undef,undef,undef,undef,undef,undef,undef,undef,undef,undef,undef,undef,undef,undef,undef,undef],defers:=[]}∧Whole W g6 65 #[.string x.1.name,.string x.1.value]∧w.heap.size+5≤g6∧RI w P m0 (pre.map (·.1)) W∧KnG p.attrs pre x W∧∃va,Whole W (w.heap.size+4) 32 #[va]∧Own W w.heap.size 65 2 va ((pre.map (·.1)).map acell)∧va.ownBlock≠some g6)
  (fun pre x a' s A B row hs hg hr=>by
    obtain ⟨g6,h1,h2,h3,h4,h5,va,h6,h7,h8⟩:=hs
    have hk:=cells_other hg (fun r e=>(hr r e).2)
    exact ⟨g6,h1,hk _ _ _ h2,h3,h4.grown HSZ.out hg hr,⟨h5.is,h5.rdr.cells (fun g cs=>hk g _ cs),h5.next⟩,va,hk _ _ _ h6,h7.cells hk,h8⟩)
 case hassign =>
  rintro l pre ⟨⟨nm,vl⟩,rv⟩ W K hI hG hK
  simp only [encA]
  have hb:Below W.heap.size W (W.alloc (.cells #[.string nm,.string vl] 65)):=(Below.refl _ W).alloc (Nat.le_refl _) _
  have hN:w.heap.size+5≤W.heap.size:=by obtain ⟨va,h1,-⟩:=hI.att;have:=h1.lt;omega
  have HFIN:Hid (KeepsFrom W2.heap.size W (W.alloc (.cells #[.string nm,.string vl] 65))∧Below w.heap.size W (W.alloc (.cells #[.string nm,.string vl] 65))∧Whole (W.alloc (.cells #[.string nm,.string vl] 65)) W.heap.size 65 #[.string nm,.string vl]∧w.heap.size+5≤W.heap.size∧RI w P m0 (pre.map (·.1)) (W.alloc (.cells #[.string nm,.string vl] 65))∧KnG p.attrs pre (⟨nm,vl⟩,rv) (W.alloc (.cells #[.string nm,.string vl] 65))∧∃va,Whole (W.alloc (.cells #[.string nm,.string vl] 65)) (w.heap.size+4) 32 #[va]∧Own (W.alloc (.cells #[.string nm,.string vl] 65)) w.heap.size 65 2 va ((pre.map (·.1)).map acell)∧va.ownBlock≠some W.heap.size):=Lib.hid
   ⟨(others_under hb).from _,hb.mono hI.low.size,Whole.new _ _ _,hN,hI.under hb,⟨hG.is,hG.rdr.under hb,hG.next⟩,(by obtain ⟨va,h1,h2⟩:=hI.att;exact ⟨va,h1.under hb,h2.under hb,fun e=>by have:=(h2.lt e).2;omega⟩)⟩
  clear hb hI hG hN
  gi_wp2
  exact hK _ _ HFIN.out.1 HFIN.out.2.1 ⟨_,rfl,HFIN.out.2.2.1,HFIN.out.2.2.2.1,HFIN.out.2.2.2.2.1,HFIN.out.2.2.2.2.2⟩
 case hbody =>
  rintro l pre ⟨⟨nm,vl⟩,rv⟩ a' W ⟨g6,rfl,hg6,hge,hRI,hG,va,hva,hov,hvg⟩
  obtain ⟨Av,cv,hvf,-⟩:=hov.form
  obtain ⟨k,hk⟩:∃k,(pre.map (·.1)).length=k:=⟨_,rfl⟩
  rw [List.length_map,hk] at hvf
  subst hvf
  have hk64:k≤64:=by have:=hRI.few;omega
  have e5:W.cell? ⟨w.heap.size+4,0,none⟩=some (.slice Av k cv):=hva.cell 0
  have y0:W.cell? ⟨g6,0,none⟩=some (.string nm):=hg6.cell 0
  have y1:W.cell? ⟨g6,1,none⟩=some (.string vl):=hg6.cell 1
  have HB:=Lib.hid (And.intro hRI (And.intro hG (And.intro hva (And.intro hov (And.intro hg6 (And.intro hk hvg))))))
  clear hva hov hRI hG hg6 hk hvg
  by_cases h64:k=64
  · subst h64
    have HX:Hid (64<(p.attrs.filter known).length):=Lib.hid (by
     obtain ⟨j,hj,hp⟩:=HB.out.2.1.next
     have hkn:=HB.out.2.1.is
     have h1:=take_known hj
     have hkn:known ⟨nm,vl⟩=true:=hkn
     rw [hkn,←hp] at h1
     have h2:((p.attrs.take (j+1)).filter known).length≤(p.attrs.filter known).length:=((List.take_sublist _ _).filter _).length_le
     rw [h1,List.length_append,HB.out.2.2.2.2.2.1] at h2
     simp at h2
     omega)
    have HRS:Hid (Whole W (w.heap.size+1) 28 zeroM∧Whole W (w.heap.size+2) 35 #[.int .i64 0]∧Below w.heap.size w W):=Lib.hid ⟨HB.out.1.res,HB.out.1.err,HB.out.1.low⟩
    have r0:W.cell? ⟨w.heap.size+1,0,none⟩=some (.int .i64 0):=HRS.out.1.cell 0
    have r1:W.cell? ⟨w.heap.size+1,1,none⟩=some (.int .i64 0):=HRS.out.1.cell 1
    have r2:W.cell? ⟨w.heap.size+1,2,none⟩=some (.string ⟨#[]⟩):=HRS.out.1.cell 2
    have r3:W.cell? ⟨w.heap.size+1,3,none⟩=some (.int .i64 0):=HRS.out.1.cell 3
    have r4:W.cell? ⟨w.heap.size+1,4,none⟩=some (.slice none 0 0):=HRS.out.1.cell 4
    have r5:W.cell? ⟨w.heap.size+1,5,none⟩=some (.slice none 0 0):=HRS.out.1.cell 5
    have r6:W.cell? ⟨w.heap.size+1,6,none⟩=some (.slice none 0 0):=HRS.out.1.cell 6
    have r7:W.cell? ⟨w.heap.size+1,7,none⟩=some (.bool false):=HRS.out.1.cell 7
    have r8:W.cell? ⟨w.heap.size+1,8,none⟩=some (.slice none 0 0):=HRS.out.1.cell 8
    have r9:W.cell? ⟨w.heap.size+1,9,none⟩=some (.slice none 0 0):=HRS.out.1.cell 9
    have r10:W.cell? ⟨w.heap.size+1,10,none⟩=some (.int .i64 0):=HRS.out.1.cell 10
    have q0:=HRS.out.1.frz
    have e3:W.cell? ⟨w.heap.size+2,0,none⟩=some (.int .i64 0):=HRS.out.2.1.cell 0
    have q3:=HRS.out.2.1.frz 0
    have HFIN:Hid (∀W',W'=(puts W (w.heap.size+1) [.int .i64 0,.int .i64 0,.string ⟨#[]⟩,.int .i64 0,.slice none 0 0,.slice none 0 0,.slice none 0 0,.bool false,.slice none 0 0,.slice none 0 0,.int .i64 0] 0).setCell ⟨w.heap.size+2,0,none⟩ (.int .i64 2) →
     KeepsFrom W2.heap.size W W'∧Below w.heap.size w W'∧Whole W' (w.heap.size+1) 28 zeroM∧Whole W' (w.heap.size+2) 35 #[.int .i64 2]):=Lib.hid (by
     rintro W' rfl
     exact ⟨((puts_others _ _ _ _).trans (Go.KeepsOthers.setCell _ _ _)).from _,(HRS.out.2.2.trans (puts_below (by omega) _ _ _)).setCell (p:=⟨w.heap.size+2,0,none⟩) (by show w.heap.size≤w.heap.size+2;omega) _,
      (puts_same _ 0 _ _ HRS.out.1).far (p:=⟨w.heap.size+2,0,none⟩) (by show w.heap.size+1≠w.heap.size+2;omega) _,(puts_far (by omega) _ _ _ HRS.out.2.1).set 0 _⟩)
    clear HRS
    gi_wp2
    obtain ⟨h1,h2,h3,h4⟩:=HFIN.out _ rfl
    exact ⟨h1,h2,h3,h4,HX.out⟩
  · have h64i:((k:Int) == 64)=false:=by rw [beq_eq_false_iff_ne];omega
    have hb:Below W.heap.size W (W.alloc (.cells #[.string nm,.string vl] 65)):=(Below.refl _ W).alloc (Nat.le_refl _) _
    have HA:Hid (Own (W.alloc (.cells #[.string nm,.string vl] 65)) w.heap.size 65 2 (.slice Av k cv) ((pre.map (·.1)).map acell)∧Whole (W.alloc (.cells #[.string nm,.string vl] 65)) W.heap.size 65 #[.string nm,.string vl]∧RI w P m0 (pre.map (·.1)) (W.alloc (.cells #[.string nm,.string vl] 65))∧Whole (W.alloc (.cells #[.string nm,.string vl] 65)) (w.heap.size+4) 32 #[.slice Av k cv]∧w.heap.size≤(W.alloc (.cells #[.string nm,.string vl] 65)).heap.size ∧
     KnG p.attrs pre (⟨nm,vl⟩,rv) (W.alloc (.cells #[.string nm,.string vl] 65))∧Whole (W.alloc (.cells #[.string nm,.string vl] 65)) g6 65 #[.string nm,.string vl]∧Go.KeepsOthers W (W.alloc (.cells #[.string nm,.string vl] 65))∧Below w.heap.size W (W.alloc (.cells #[.string nm,.string vl] 65))):=Lib.hid
     ⟨HB.out.2.2.2.1.under hb,Whole.new _ _ _,HB.out.1.under hb,HB.out.2.2.1.under hb,(HB.out.1.under hb).low.size,⟨HB.out.2.1.is,HB.out.2.1.rdr.under hb,HB.out.2.1.next⟩,HB.out.2.2.2.2.1.under hb,others_under hb,hb.mono HB.out.1.low.size⟩
    have HCL:Hid (∀W,Calls Tryz.prog 24 #[.string vl] W fun e w'=>e=.returned (.string vl)∧Below W.heap.size W w'):=Lib.hid fun W=>clone_any vl W (by
     obtain ⟨j,hj,-⟩:=HB.out.2.1.next
     have:=HZ.out.values _ (List.mem_of_getElem? hj)
     have:vl.size≤140737488355328:=this
     omega)
    clear hb
    gi_wp2_with (gi_at_builtin;refine wpListIn_appendE (r:=[.string nm,.string vl]) rfl (.tmp 22) (.tmp 24) rfl Tryz.underlying32 Tryz.infoSAttr rfl (Nat.zero_lt_succ _) rfl HA.out.1 rfl HA.out.2.1 rfl (fun u hu=>by simp at hu;rcases hu with rfl | rfl <;> rfl) (by rw [List.length_map,HB.out.2.2.2.2.2.1];omega) (by rw [List.length_map,HB.out.2.2.2.2.2.1];omega) HA.out.2.2.2.2.1 ?_;intro v8 w8 ho8 hg8 hn8;have H8:=Lib.hid (HA.out.2.2.1.laid (a:=⟨nm,vl⟩) HA.out.2.2.2.1 HA.out.1 ho8 hg8);have hw8:=HA.out.2.2.2.1.grown hg8 (fun e=>(HA.out.1.apart HA.out.2.2.2.1 (by decide)) e.symm);have c8:w8.cell? ⟨w.heap.size+4,0,none⟩=some (.slice Av k cv):=hw8.cell 0;have f8:=hw8.frz 0;have H6:Hid (Whole (w8.setCell ⟨w.heap.size+4,0,none⟩ v8) g6 65 #[.string nm,.string vl]):=Lib.hid ((HA.out.2.2.2.2.2.2.1.grown hg8 (fun e=>HB.out.2.2.2.2.2.2 e.symm)).far (p:=⟨w.heap.size+4,0,none⟩) (by show g6≠w.heap.size+4;omega) _);have HB8:Hid (Below w.heap.size W (w8.setCell ⟨w.heap.size+4,0,none⟩ v8)):=Lib.hid ((HA.out.2.2.2.2.2.2.2.2.trans ((Below.refl _ _).grown hg8 HA.out.2.2.2.2.1 (fun j hj=>(HA.out.1.lt hj).1))).setCell (p:=⟨w.heap.size+4,0,none⟩) (by show w.heap.size≤w.heap.size+4;omega) _);obtain ⟨A8,l8,k8,hv8⟩:∃A l k,v8=.slice A l k:=(by obtain ⟨A,k,h,-⟩:=ho8.form;exact ⟨_,_,_,h⟩);subst hv8;clear ho8 hg8 hn8 hw8;have y8:(w8.setCell ⟨w.heap.size+4,0,none⟩ (.slice A8 l8 k8)).cell? ⟨g6,1,none⟩=some (.string vl):=H6.out.cell 1)
    have H9:Hid (Below w.heap.size w (w8.setCell ⟨w.heap.size+4,0,none⟩ (.slice A8 l8 k8))∧KnG p.attrs pre (⟨nm,vl⟩,rv) (w8.setCell ⟨w.heap.size+4,0,none⟩ (.slice A8 l8 k8))):=Lib.hid
     ⟨H8.out.1,HB.out.2.1.is,HA.out.2.2.2.2.2.1.rdr.cells (fun g cs hw=>H8.out.2.2.2.2.2.2.2.1 g _ cs (by decide) (hw.ne HA.out.2.2.2.1 (by decide)) hw),HB.out.2.1.next⟩
    have HKO:Hid (Go.KeepsOthers W (w8.setCell ⟨w.heap.size+4,0,none⟩ (.slice A8 l8 k8))):=Lib.hid (HA.out.2.2.2.2.2.2.2.1.trans H8.out.2.2.2.2.2.2.2.2)
    clear HA c8 f8 y8 H6
    generalize w8.setCell ⟨w.heap.size+4,0,none⟩ (.slice A8 l8 k8)=w9 at *
    have HRC:Hid (∀w10,Below w9.heap.size w9 w10→∃f cap,rv=.func (.func f) #[] cap∧(∀args w,(callFunc f args).run Tryz.prog w=.ok (.enter f args) w)∧CallsIn (FW.inRound l) 2 Tryz.prog f (#[.pointer (some ⟨w.heap.size+3,0,none⟩),.string vl]++cap) w10 fun e w' =>
     e=.returned (.tuple #[])∧RI w P m0 (pre.map (·.1)++[⟨nm,vl⟩]) w'∧KeepsFrom W2.heap.size W w'∧Below w.heap.size W w'):=Lib.hid fun w10 hb10=>by
     obtain ⟨h1,h2,h3,h4,⟨cs,vC,vE,vR,vS,vY,hM⟩,h6,h7,h8,h9⟩:=H8.out
     have hM10:=hM.under hb10
     have hl:vl.size≤140737488355328:=by
      obtain ⟨j,hj,-⟩:=HB.out.2.1.next
      exact HZ.out.values _ (List.mem_of_getElem? hj)
     have hb0:Below w.heap.size w w10:=h1.trans (hb10.mono h1.size)
     obtain ⟨f,cap,e1,eg,hc⟩:=reader_calls w.heap.size (w.heap.size+3) (pre.map (·.1)).length ⟨nm,vl⟩ rv _ cs vC vE vR vS vY w10 hM10 (HEN.out.low hb0 H7.out) hl HB.out.1.few (H9.out.2.rdr.under hb10) HB.out.2.1.is
     refine ⟨f,cap,e1,eg,(CallsIn.inRound l (callsIn_wide.2 hc)).mono fun e w' hr=> ?_⟩
     obtain ⟨r1,r2,r3,r4⟩:=RI.read hb0 (h2.under hb10) (h3.under hb10) (h4.under hb10) (h6.under hb10) (h7.under hb10) (by rw [HB.out.2.2.2.2.2.1];omega) rfl hM10.box (Nat.le_refl _) hr
     exact ⟨r1,r2,((HKO.out.trans (others_under hb10)).trans r3).from _,(HB8.out.trans (hb10.mono h1.size)).trans r4⟩
    clear H8 H9 HKO HB8 HB
    gi_wp2_with (first | (refine ⟨trivial,?_⟩;gi_at_call 24;go_must (refine (CallsIn.inRound l (callsIn_wide.2 (HCL.out _))).mono ?_);rintro e w10 ⟨rfl,hb10⟩;obtain ⟨f,cap,rfl,eg,hcall⟩:=HRC.out w10 hb10;have HCC:=Lib.hid (And.intro eg hcall);clear eg hcall hb10) | (refine wpListIn_callV rfl (.tmp 26) (.tmp 4) (.tmp 29) rfl rfl rfl rfl trivial (fun _=>by decide) HCC.out.1 HCC.out.2 ?_;rintro e w11 ⟨rfl,hr1,hr2,hr3⟩;have HFIN:=Lib.hid (And.intro hr1 (And.intro hr2 hr3));clear hr1 hr2 hr3;refine ⟨_,rfl,?_⟩) | fail)
    exact ⟨HFIN.out.2.1,HFIN.out.2.2,by rw [List.map_append];exact HFIN.out.1⟩
 case hdone =>
  rintro D xs W hD hxs hI hK
  obtain ⟨cs,vC,vE,vR,vS,vY,hM⟩:=hI.med
  obtain ⟨AC,lC,kC,rfl⟩:∃A l k,vC=.slice A l k:=by obtain ⟨A,k,h,-⟩:=hM.hC.form;exact ⟨_,_,_,h⟩
  obtain ⟨AE,lE,kE,rfl⟩:∃A l k,vE=.slice A l k:=by obtain ⟨A,k,h,-⟩:=hM.hE.form;exact ⟨_,_,_,h⟩
  obtain ⟨AR,lR,kR,rfl⟩:∃A l k,vR=.slice A l k:=by obtain ⟨A,k,h,-⟩:=hM.hR.form;exact ⟨_,_,_,h⟩
  obtain ⟨AS,lS,kS,rfl⟩:∃A l k,vS=.slice A l k:=by obtain ⟨A,k,h,-⟩:=hM.hS.form;exact ⟨_,_,_,h⟩
  obtain ⟨AY,lY,kY,rfl⟩:∃A l k,vY=.slice A l k:=by obtain ⟨A,k,h,-⟩:=hM.hY.form;exact ⟨_,_,_,h⟩
  obtain ⟨va,hva,hov⟩:=hI.att
  obtain ⟨Av,cv,hvf,-⟩:=hov.form
  have hfew:=hI.few
  obtain ⟨m,hm⟩:∃m,(xs.map (·.1)).foldl (rd rP) m0=m:=⟨_,rfl⟩
  have hrd:readM rP p=m:=by
   rw [←hm,hxs,←HM0.out,←HLN.out.1]
   rfl
  rw [hm] at hM
  rw [hxs] at hfew hM hov hvf
  obtain ⟨KL,hKL⟩:∃L,p.attrs.filter known=L:=⟨_,rfl⟩
  rw [hKL] at hfew hM hov hvf
  obtain ⟨k,hk⟩:∃k,KL.length=k:=⟨_,rfl⟩
  rw [List.length_map,hk] at hvf
  subst hvf
  rw [hk] at hM hfew
  have hlow:=hI.low
  have HX:=Lib.hid (And.intro hI.res (And.intro hI.err (And.intro hK (And.intro hlow (And.intro hD (And.intro hva (And.intro hov hrd)))))))
  have HMW:=Lib.hid hM
  have HX9:=Lib.hid hI.part
  have HKL:=Lib.hid (And.intro hKL hk)
  have HWR:=Lib.hid (write_any _ m (.slice AC lC kC) (.slice AE lE kE) (.slice AR lR kR) (.slice AS lS kS) (.slice AY lY kY) W hM.media hM.siz (HEN.out.env.low hlow H7.out) (Nat.le_trans H7.out hlow.size))
  unfold mcell at HWR
  have b0:W.cell? ⟨w.heap.size+3,0,none⟩=some (.int .i64 m.kind):=hM.box.cell 0
  have b1:W.cell? ⟨w.heap.size+3,1,none⟩=some (.int .i64 m.port):=hM.box.cell 1
  have b2:W.cell? ⟨w.heap.size+3,2,none⟩=some (.string m.mid):=hM.box.cell 2
  have b3:W.cell? ⟨w.heap.size+3,3,none⟩=some (.int .i64 m.dir):=hM.box.cell 3
  have b4:W.cell? ⟨w.heap.size+3,4,none⟩=some ((.slice AC lC kC)):=hM.box.cell 4
  have b5:W.cell? ⟨w.heap.size+3,5,none⟩=some ((.slice AE lE kE)):=hM.box.cell 5
  have b6:W.cell? ⟨w.heap.size+3,6,none⟩=some ((.slice AR lR kR)):=hM.box.cell 6
  have b7:W.cell? ⟨w.heap.size+3,7,none⟩=some (.bool m.sending):=hM.box.cell 7
  have b8:W.cell? ⟨w.heap.size+3,8,none⟩=some ((.slice AS lS kS)):=hM.box.cell 8
  have b9:W.cell? ⟨w.heap.size+3,9,none⟩=some ((.slice AY lY kY)):=hM.box.cell 9
  have b10:W.cell? ⟨w.heap.size+3,10,none⟩=some (.int .i64 m.sctp):=hM.box.cell 10
  clear hI hM hva hov hlow hrd hK hKL hk hm hxs hD
  go_upto_region 12 with (go_at_call 8;(with_reducible refine HWR.out.mono ?_);rintro e w3 hw3;obtain ⟨Ao,co,rfl,hwa,hb3⟩:=hw3.reads;have H3:=Lib.hid (And.intro hwa hb3);clear hw3 hwa hb3;dsimp only)
  have hb4:Below w3.heap.size w3 (w3.alloc (.cells #[.string (partW m).line,.string (partW m).conn,.slice Ao (partW m).attrs.length co] 34)):=(Below.refl _ w3).alloc (Nat.le_refl _) _
  have H4:Hid (Whole (w3.alloc (.cells #[.string (partW m).line,.string (partW m).conn,.slice Ao (partW m).attrs.length co] 34)) w3.heap.size 34 #[.string (partW m).line,.string (partW m).conn,.slice Ao (partW m).attrs.length co]∧Below W.heap.size W (w3.alloc (.cells #[.string (partW m).line,.string (partW m).conn,.slice Ao (partW m).attrs.length co] 34))∧AttrsV (w3.alloc (.cells #[.string (partW m).line,.string (partW m).conn,.slice Ao (partW m).attrs.length co] 34)) w3.heap.size (.slice Ao (partW m).attrs.length co) (partW m).attrs):=Lib.hid
   ⟨Whole.new _ _ _,below_chain (Nat.le_refl _) H3.out.2 hb4,H3.out.1.below hb4⟩
  clear hb4 H3 HWR b0 b1 b2 b3 b4 b5 b6 b7 b8 b9 b10
  generalize w3.alloc (.cells #[.string (partW m).line,.string (partW m).conn,.slice Ao (partW m).attrs.length co] 34)=w4 at *
  have HG8:Hid (w3.heap.size≤w4.heap.size):=Lib.hid (Nat.le_of_lt H4.out.1.lt)
  generalize w3.heap.size=g8 at *
  have HEQ:Hid (∀w5,Below w4.heap.size w4 w5→(Whole w5 (w.heap.size+1) 28 zeroM∧Whole w5 (w.heap.size+2) 35 #[.int .i64 0]∧w5.heap[D]? = some (.deferred (some []))∧Below w.heap.size w w5∧MW w.heap.size (w.heap.size+3) k w5 m cs (.slice AC lC kC) (.slice AE lE kE) (.slice AR lR kR) (.slice AS lS kS) (.slice AY lY kY))):=Lib.hid fun w5 hb=>by
   have hb':=below_chain (Nat.le_refl _) H4.out.2.1 hb
   exact ⟨HX.out.1.under hb',HX.out.2.1.under hb',(others_under hb').same _ _ HX.out.2.2.1 rfl,HX.out.2.2.2.1.trans (hb'.mono HX.out.2.2.2.1.size),HMW.out.under hb'⟩
  have HSE:Hid (Calls Tryz.prog 25 #[.slice Ao (partW m).attrs.length co,.slice Av k cv] w4 (SameB w4 (partW m).attrs KL)):=Lib.hid (slEqual_any _ _ _ _ w4 (H4.out.2.2.more HG8.out) (by
   have:=(HX.out.2.2.2.2.2.2.1.under H4.out.2.1).reads (Nat.le_refl _)
   exact this))
  have c0:w4.cell? ⟨g8,0,none⟩=some (.string (partW m).line):=H4.out.1.cell 0
  have c1:w4.cell? ⟨g8,1,none⟩=some (.string (partW m).conn):=H4.out.1.cell 1
  have c2:w4.cell? ⟨g8,2,none⟩=some (.slice Ao (partW m).attrs.length co):=H4.out.1.cell 2
  have hpt:Whole w4 w.heap.size 34 #[.string ln,.string cn,.slice A n c]:=by rw [HP.out];exact HX9.out.under H4.out.2.1
  have p0:w4.cell? ⟨w.heap.size,0,none⟩=some (.string ln):=hpt.cell 0
  have p1:w4.cell? ⟨w.heap.size,1,none⟩=some (.string cn):=hpt.cell 1
  have a0:w4.cell? ⟨w.heap.size+4,0,none⟩=some (.slice Av k cv):=(HX.out.2.2.2.2.2.1.under H4.out.2.1).cell 0
  clear hpt
  have HNO:Hid (¬IsM p m→∀w5,Below w4.heap.size w4 w5→∀W',W'=(puts w5 (w.heap.size+1) [.int .i64 0,.int .i64 0,.string ⟨#[]⟩,.int .i64 0,.slice none 0 0,.slice none 0 0,.slice none 0 0,.bool false,.slice none 0 0,.slice none 0 0,.int .i64 0] 0).setCell ⟨w.heap.size+2,0,none⟩ (.int .i64 2)→∀tmps:Array Value,tmps.getD 2 undef=.pointer (some ⟨w.heap.size+1,0,none⟩)→tmps.getD 3 undef=.pointer (some ⟨w.heap.size+2,0,none⟩) →
   postM 5 Tryz.f9 (ReadO p w) .ret {tmps:=tmps,defers:=[{target:=.collected D,args:=#[]}]} W'):=Lib.hid fun hno w5 hb5 W' hW tmps ht2 ht3=>by
   obtain ⟨q1,q2,q3,q4,q5⟩:=HEQ.out w5 hb5
   obtain ⟨r1,r2,r3,r4⟩:=(read_last (P:=P) (n:=k) (m:=m) (cs:=cs) (vC:=.slice AC lC kC) (vE:=.slice AE lE kE) (vR:=.slice AR lR kR) (vS:=.slice AS lS kS) (vY:=.slice AY lY kY) q4 q1 q2 q3).1 W' hW
   exact read_end 5 Tryz.f9 rfl (M:=zeroM) rfl r2 r3 r4 _ ht2 ht3 ⟨MediaS.zero,.slice none 0 0,.slice none 0 0,.slice none 0 0,.slice none 0 0,.slice none 0 0,2,rfl,r1.grown (grownBy_putObj' W' D _) r1.size (fun r e=>by cases e;exact Nat.le_trans HSZ.out HX.out.2.2.2.2.1),.inr ⟨rfl,rfl,not_isM HX.out.2.2.2.2.2.2.2 hno⟩⟩
  have HYES:Hid (IsM p m→∀w5,Below w4.heap.size w4 w5→∀W',W'=(puts w5 (w.heap.size+1) [.int .i64 m.kind,.int .i64 m.port,.string m.mid,.int .i64 m.dir,(.slice AC lC kC),(.slice AE lE kE),(.slice AR lR kR),.bool m.sending,(.slice AS lS kS),(.slice AY lY kY),.int .i64 m.sctp] 0).setCell ⟨w.heap.size+2,0,none⟩ (.int .i64 0)→∀tmps:Array Value,tmps.getD 2 undef=.pointer (some ⟨w.heap.size+1,0,none⟩)→tmps.getD 3 undef=.pointer (some ⟨w.heap.size+2,0,none⟩) →
   postM 5 Tryz.f9 (ReadO p w) .ret {tmps:=tmps,defers:=[{target:=.collected D,args:=#[]}]} W'):=Lib.hid fun hyes w5 hb5 W' hW tmps ht2 ht3=>by
   obtain ⟨q1,q2,q3,q4,q5⟩:=HEQ.out w5 hb5
   obtain ⟨r1,r2,r3,r4,r5⟩:=(read_last (P:=P) (n:=k) (m:=m) (cs:=cs) (vC:=.slice AC lC kC) (vE:=.slice AE lE kE) (vR:=.slice AR lR kR) (vS:=.slice AS lS kS) (vY:=.slice AY lY kY) q4 q1 q2 q3).2 q5 W' hW
   exact read_end 5 Tryz.f9 rfl (M:=mcell m (.slice AC lC kC) (.slice AE lE kE) (.slice AR lR kR) (.slice AS lS kS) (.slice AY lY kY)) rfl r2 r3 r4 _ ht2 ht3 ⟨m,(.slice AC lC kC),(.slice AE lE kE),(.slice AR lR kR),(.slice AS lS kS),(.slice AY lY kY),0,rfl,r1.grown (grownBy_putObj' W' D _) r1.size (fun r e=>by cases e;exact Nat.le_trans HSZ.out HX.out.2.2.2.2.1),.inl ⟨rfl,hyes,_,cs,(r5.cells (cells_put (.deferred none) r4 rfl)).wider hfew⟩⟩
  have HIS:Hid (IsM p m↔errW m=0∧(partW m).line=ln∧(partW m).conn=cn∧(partW m).attrs=KL):=Lib.hid (by
   unfold IsM errW partW
   rw [HLN.out.1,HLN.out.2,HKL.out.1]
   by_cases hmm:mayM m=true
   · rw [if_pos hmm,if_pos hmm]
     show (_∧_∧_∧_)↔(_∧bs (lineM m)=ln∧bs wConn=cn∧attrsM m=KL)
     constructor
     · rintro ⟨-,h2,h3,h4⟩
       exact ⟨rfl,by rw [h2,bs_tx],h3.symm,h4⟩
     · rintro ⟨-,h2,h3,h4⟩
       exact ⟨hmm,by rw [←h2,tx_bs],h3.symm,h4⟩
   · rw [if_neg hmm,if_neg hmm]
     constructor
     · rintro ⟨h,-⟩;exact absurd h hmm
     · rintro ⟨h,-⟩;cases h)
  have hew:errW m=0∨errW m=1:=by unfold errW;split <;> simp
  have res0:∀w5,Below w4.heap.size w4 w5→(∀i v,(zeroM)[i]? = some v→w5.cell? ⟨w.heap.size+1,i,none⟩=some v)∧(∀i,w5.frozen? ⟨w.heap.size+1,i,none⟩=false)∧w5.cell? ⟨w.heap.size+2,0,none⟩=some (.int .i64 0)∧(∀i,w5.frozen? ⟨w.heap.size+2,i,none⟩=false):=fun w5 hb=>by
   obtain ⟨q1,q2,q3,q4,q5⟩:=HEQ.out w5 hb
   exact ⟨fun i v hv=>(q1.cell i).trans hv,q1.frz,q2.cell 0,q2.frz⟩
  have HR0:=Lib.hid res0
  have HMB:Hid (∀w5,Below w4.heap.size w4 w5→∀i v,(mcell m (.slice AC lC kC) (.slice AE lE kE) (.slice AR lR kR) (.slice AS lS kS) (.slice AY lY kY))[i]? = some v→w5.cell? ⟨w.heap.size+3,i,none⟩=some v):=Lib.hid fun w5 hb i v hv=>((HEQ.out w5 hb).2.2.2.2.box.cell i).trans hv
  clear res0 HEQ H4 HX HMW hfew
  obtain ⟨er,her⟩:∃e,errW m=e:=⟨_,rfl⟩
  obtain ⟨sl,hsl⟩:∃e,(partW m).line=e:=⟨_,rfl⟩
  obtain ⟨sc,hsc⟩:∃e,(partW m).conn=e:=⟨_,rfl⟩
  rw [her,hsl,hsc] at HIS
  simp only [her,hsl,hsc]
  rw [hsl] at c0
  rw [hsc] at c1
  rw [her] at hew
  clear her hsl hsc
  rcases hew with rfl | rfl
  · obtain ⟨x1,hx1⟩:∃b,(sl.toList == ln.toList)=b:=⟨_,rfl⟩
    obtain ⟨x2,hx2⟩:∃b,(sc.toList == cn.toList)=b:=⟨_,rfl⟩
    have H1:Hid (x1=true↔sl=ln):=Lib.hid (by rw [←hx1];exact toList_beq)
    have H2:Hid (x2=true↔sc=cn):=Lib.hid (by rw [←hx2];exact toList_beq)
    cases x1 with
    | false =>
      have hno:=Lib.hid (HNO.out (fun h=>by have:=H1.out.2 (HIS.out.1 h).2.1;cases this) w4 (Below.refl _ _))
      obtain ⟨z,zf,ze,zq⟩:=HR0.out w4 (Below.refl _ _)
      have z0:w4.cell? ⟨w.heap.size+1,0,none⟩=some (.int .i64 0):=z 0 _ rfl
      have z1:w4.cell? ⟨w.heap.size+1,1,none⟩=some (.int .i64 0):=z 1 _ rfl
      have z2:w4.cell? ⟨w.heap.size+1,2,none⟩=some (.string ⟨#[]⟩):=z 2 _ rfl
      have z3:w4.cell? ⟨w.heap.size+1,3,none⟩=some (.int .i64 0):=z 3 _ rfl
      have z4:w4.cell? ⟨w.heap.size+1,4,none⟩=some (.slice none 0 0):=z 4 _ rfl
      have z5:w4.cell? ⟨w.heap.size+1,5,none⟩=some (.slice none 0 0):=z 5 _ rfl
      have z6:w4.cell? ⟨w.heap.size+1,6,none⟩=some (.slice none 0 0):=z 6 _ rfl
      have z7:w4.cell? ⟨w.heap.size+1,7,none⟩=some (.bool false):=z 7 _ rfl
      have z8:w4.cell? ⟨w.heap.size+1,8,none⟩=some (.slice none 0 0):=z 8 _ rfl
      have z9:w4.cell? ⟨w.heap.size+1,9,none⟩=some (.slice none 0 0):=z 9 _ rfl
      have z10:w4.cell? ⟨w.heap.size+1,10,none⟩=some (.int .i64 0):=z 10 _ rfl
      clear z
      go_wp2
      exact hno.out _ rfl _ rfl rfl
    | true =>
      cases x2 with
      | false =>
        have hno:=Lib.hid (HNO.out (fun h=>by have:=H2.out.2 (HIS.out.1 h).2.2.1;cases this) w4 (Below.refl _ _))
        obtain ⟨z,zf,ze,zq⟩:=HR0.out w4 (Below.refl _ _)
        have z0:w4.cell? ⟨w.heap.size+1,0,none⟩=some (.int .i64 0):=z 0 _ rfl
        have z1:w4.cell? ⟨w.heap.size+1,1,none⟩=some (.int .i64 0):=z 1 _ rfl
        have z2:w4.cell? ⟨w.heap.size+1,2,none⟩=some (.string ⟨#[]⟩):=z 2 _ rfl
        have z3:w4.cell? ⟨w.heap.size+1,3,none⟩=some (.int .i64 0):=z 3 _ rfl
        have z4:w4.cell? ⟨w.heap.size+1,4,none⟩=some (.slice none 0 0):=z 4 _ rfl
        have z5:w4.cell? ⟨w.heap.size+1,5,none⟩=some (.slice none 0 0):=z 5 _ rfl
        have z6:w4.cell? ⟨w.heap.size+1,6,none⟩=some (.slice none 0 0):=z 6 _ rfl
        have z7:w4.cell? ⟨w.heap.size+1,7,none⟩=some (.bool false):=z 7 _ rfl
        have z8:w4.cell? ⟨w.heap.size+1,8,none⟩=some (.slice none 0 0):=z 8 _ rfl
        have z9:w4.cell? ⟨w.heap.size+1,9,none⟩=some (.slice none 0 0):=z 9 _ rfl
        have z10:w4.cell? ⟨w.heap.size+1,10,none⟩=some (.int .i64 0):=z 10 _ rfl
        clear z
        go_wp2
        exact hno.out _ rfl _ rfl rfl
      | true =>
        go_upto_if 58 with (go_at_call 25;(with_reducible refine HSE.out.mono ?_);rintro e w5 ⟨b,rfl,hb,hb5⟩;have H5:=Lib.hid (And.intro hb hb5);clear hb hb5;dsimp only)
        cases b with
        | false =>
          have hno:=Lib.hid (HNO.out (fun h=>by have:=H5.out.1.2 (HIS.out.1 h).2.2.2;cases this) w5 H5.out.2)
          obtain ⟨z,zf,ze,zq⟩:=HR0.out w5 (H5.out.2)
          have z0:w5.cell? ⟨w.heap.size+1,0,none⟩=some (.int .i64 0):=z 0 _ rfl
          have z1:w5.cell? ⟨w.heap.size+1,1,none⟩=some (.int .i64 0):=z 1 _ rfl
          have z2:w5.cell? ⟨w.heap.size+1,2,none⟩=some (.string ⟨#[]⟩):=z 2 _ rfl
          have z3:w5.cell? ⟨w.heap.size+1,3,none⟩=some (.int .i64 0):=z 3 _ rfl
          have z4:w5.cell? ⟨w.heap.size+1,4,none⟩=some (.slice none 0 0):=z 4 _ rfl
          have z5:w5.cell? ⟨w.heap.size+1,5,none⟩=some (.slice none 0 0):=z 5 _ rfl
          have z6:w5.cell? ⟨w.heap.size+1,6,none⟩=some (.slice none 0 0):=z 6 _ rfl
          have z7:w5.cell? ⟨w.heap.size+1,7,none⟩=some (.bool false):=z 7 _ rfl
          have z8:w5.cell? ⟨w.heap.size+1,8,none⟩=some (.slice none 0 0):=z 8 _ rfl
          have z9:w5.cell? ⟨w.heap.size+1,9,none⟩=some (.slice none 0 0):=z 9 _ rfl
          have z10:w5.cell? ⟨w.heap.size+1,10,none⟩=some (.int .i64 0):=z 10 _ rfl
          clear z
          go_wp2
          exact hno.out _ rfl _ rfl rfl
        | true =>
          have hyes:=Lib.hid (HYES.out (HIS.out.2 ⟨rfl,H1.out.1 rfl,H2.out.1 rfl,H5.out.1.1 rfl⟩) w5 H5.out.2)
          obtain ⟨z,zf,ze,zq⟩:=HR0.out w5 (H5.out.2)
          have z0:w5.cell? ⟨w.heap.size+1,0,none⟩=some (.int .i64 0):=z 0 _ rfl
          have z1:w5.cell? ⟨w.heap.size+1,1,none⟩=some (.int .i64 0):=z 1 _ rfl
          have z2:w5.cell? ⟨w.heap.size+1,2,none⟩=some (.string ⟨#[]⟩):=z 2 _ rfl
          have z3:w5.cell? ⟨w.heap.size+1,3,none⟩=some (.int .i64 0):=z 3 _ rfl
          have z4:w5.cell? ⟨w.heap.size+1,4,none⟩=some (.slice none 0 0):=z 4 _ rfl
          have z5:w5.cell? ⟨w.heap.size+1,5,none⟩=some (.slice none 0 0):=z 5 _ rfl
          have z6:w5.cell? ⟨w.heap.size+1,6,none⟩=some (.slice none 0 0):=z 6 _ rfl
          have z7:w5.cell? ⟨w.heap.size+1,7,none⟩=some (.bool false):=z 7 _ rfl
          have z8:w5.cell? ⟨w.heap.size+1,8,none⟩=some (.slice none 0 0):=z 8 _ rfl
          have z9:w5.cell? ⟨w.heap.size+1,9,none⟩=some (.slice none 0 0):=z 9 _ rfl
          have z10:w5.cell? ⟨w.heap.size+1,10,none⟩=some (.int .i64 0):=z 10 _ rfl
          clear z
          have m0:w5.cell? ⟨w.heap.size+3,0,none⟩=some (.int .i64 m.kind):=HMB.out w5 H5.out.2 0 _ rfl
          have m1:w5.cell? ⟨w.heap.size+3,1,none⟩=some (.int .i64 m.port):=HMB.out w5 H5.out.2 1 _ rfl
          have m2:w5.cell? ⟨w.heap.size+3,2,none⟩=some (.string m.mid):=HMB.out w5 H5.out.2 2 _ rfl
          have m3:w5.cell? ⟨w.heap.size+3,3,none⟩=some (.int .i64 m.dir):=HMB.out w5 H5.out.2 3 _ rfl
          have m4:w5.cell? ⟨w.heap.size+3,4,none⟩=some ((.slice AC lC kC)):=HMB.out w5 H5.out.2 4 _ rfl
          have m5:w5.cell? ⟨w.heap.size+3,5,none⟩=some ((.slice AE lE kE)):=HMB.out w5 H5.out.2 5 _ rfl
          have m6:w5.cell? ⟨w.heap.size+3,6,none⟩=some ((.slice AR lR kR)):=HMB.out w5 H5.out.2 6 _ rfl
          have m7:w5.cell? ⟨w.heap.size+3,7,none⟩=some (.bool m.sending):=HMB.out w5 H5.out.2 7 _ rfl
          have m8:w5.cell? ⟨w.heap.size+3,8,none⟩=some ((.slice AS lS kS)):=HMB.out w5 H5.out.2 8 _ rfl
          have m9:w5.cell? ⟨w.heap.size+3,9,none⟩=some ((.slice AY lY kY)):=HMB.out w5 H5.out.2 9 _ rfl
          have m10:w5.cell? ⟨w.heap.size+3,10,none⟩=some (.int .i64 m.sctp):=HMB.out w5 H5.out.2 10 _ rfl
          go_wp2
          exact hyes.out _ rfl _ rfl rfl
  · have hno:=Lib.hid (HNO.out (fun h=>by have:=(HIS.out.1 h).1;cases this) w4 (Below.refl _ _))
    obtain ⟨z,zf,ze,zq⟩:=HR0.out w4 (Below.refl _ _)
    have z0:w4.cell? ⟨w.heap.size+1,0,none⟩=some (.int .i64 0):=z 0 _ rfl
    have z1:w4.cell? ⟨w.heap.size+1,1,none⟩=some (.int .i64 0):=z 1 _ rfl
    have z2:w4.cell? ⟨w.heap.size+1,2,none⟩=some (.string ⟨#[]⟩):=z 2 _ rfl
    have z3:w4.cell? ⟨w.heap.size+1,3,none⟩=some (.int .i64 0):=z 3 _ rfl
    have z4:w4.cell? ⟨w.heap.size+1,4,none⟩=some (.slice none 0 0):=z 4 _ rfl
    have z5:w4.cell? ⟨w.heap.size+1,5,none⟩=some (.slice none 0 0):=z 5 _ rfl
    have z6:w4.cell? ⟨w.heap.size+1,6,none⟩=some (.slice none 0 0):=z 6 _ rfl
    have z7:w4.cell? ⟨w.heap.size+1,7,none⟩=some (.bool false):=z 7 _ rfl
    have z8:w4.cell? ⟨w.heap.size+1,8,none⟩=some (.slice none 0 0):=z 8 _ rfl
    have z9:w4.cell? ⟨w.heap.size+1,9,none⟩=some (.slice none 0 0):=z 9 _ rfl
    have z10:w4.cell? ⟨w.heap.size+1,10,none⟩=some (.int .i64 0):=z 10 _ rfl
    clear z
    go_wp2
    exact hno.out _ rfl _ rfl rfl
 case hstop =>
  rintro D W hD ⟨h1,h2,h3,h4⟩ hK
  refine read_end 5 Tryz.f9 rfl (M:=zeroM) rfl h2 h3 hK _ rfl rfl ?_
  exact ⟨MediaS.zero,.slice none 0 0,.slice none 0 0,.slice none 0 0,.slice none 0 0,.slice none 0 0,2,rfl,h1.grown (grownBy_putObj' W D _) h1.size (fun r e=>by cases e;exact Nat.le_trans HSZ.out hD),.inr ⟨rfl,rfl,not_isM_many h4⟩⟩
end Go.Proofs.YtgnpckelbokniaaGreatDoor
