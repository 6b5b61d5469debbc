import Derived.Test.YtgnpckelbokniaaGreatDoorPkAttrKeepsA07
namespace Go.Proofs.YtgnpckelbokniaaGreatDoor
open Go.RowKit Go.Shelf
set_option linter.unusedVariables false
set_option linter.unusedSimpArgs false
def ReadO (p:PartS) (w:World) (e:Ending) (w':World):Prop:=∃m vC vE vR vS vY er,e=.returned (.tuple #[.agg (mcell m vC vE vR vS vY),.int .i64 er])∧Below w.heap.size w w' ∧
 ((er=0∧IsM p m∧∃bm cs,MW w.heap.size bm 64 w' m cs vC vE vR vS vY)∨(er=2∧mcell m vC vE vR vS vY=zeroM∧∀m',TypedM m'→¬IsM p m'))
structure SizR (p:PartS):Prop where
 line:p.line.size≤140737488355328
 values:∀a∈p.attrs,a.value.size≤140737488355328
 len:p.attrs.length≤140737488355328
theorem EnvR.low {w w':World} {B:Nat} (h:EnvR w) (hb:Below B w w') (hB:7≤B):EnvR w':=by
 obtain ⟨e1,h1,k1⟩:=h.syn
 obtain ⟨e2,h2,k2⟩:=h.rng
 exact ⟨h.env.low hb hB,⟨e1,(hb.cell (p:=⟨4,0,Option.none⟩) (Nat.lt_of_lt_of_le (show 4<7 by decide) hB)).trans h1,k1⟩,⟨e2,(hb.cell (p:=⟨5,0,Option.none⟩) (Nat.lt_of_lt_of_le (show 5<7 by decide) hB)).trans h2,k2⟩⟩
theorem MW.zero {base bm:Nat} {W:World} (h:Whole W bm 28 zeroM) (hb:base≤bm):MW base bm 0 W MediaS.zero [] (.slice none 0 0) (.slice none 0 0) (.slice none 0 0) (.slice none 0 0) (.slice none 0 0) :=
 ⟨rfl,h,Own.nil _ _ _ _,(fun c hc=>by cases hc),Own.nil _ _ _ _,Own.nil _ _ _ _,Own.nil _ _ _ _,Own.nil _ _ _ _,(by simp),hb,
  ⟨by decide,(fun c hc=>by cases hc),(fun c hc=>by cases hc),(fun c hc=>by cases hc),(fun c hc=>by cases hc),⟨(fun c hc=>by cases hc),(fun c hc=>by cases hc)⟩,by decide⟩,
  (by simp [MediaS.zero])⟩
theorem MW.keepT {base bm n:Nat} {w w':World} {m:MediaS} {cs:List (CodecS×Value)} {vC vE vR vS vY:Value} (h:MW base bm n w m cs vC vE vR vS vY) (hb:Whole w' bm 28 (mcell m vC vE vR vS vY)) (hk:∀g t ds,t≠28→t≠35→Whole w g t ds→Whole w' g t ds):MW base bm n w' m cs vC vE vR vS vY :=
 have own:∀{e:TypeId} {sz:Nat} {v:Value} {rs:List (List Value)},Own w base e sz v rs→e≠28→e≠35→Own w' base e sz v rs:=fun ho h1 h2=>ho.keep fun g ds _ hw=>hk g _ ds h1 h2 hw
 ⟨h.eqC,hb,own h.hC (by decide) (by decide),fun c hc=>own (h.hF c hc) (by decide) (by decide),own h.hE (by decide) (by decide),own h.hR (by decide) (by decide),own h.hS (by decide) (by decide),own h.hY (by decide) (by decide),h.ap,h.hbm,h.siz,h.lens⟩
theorem puts_zero {W:World} {g:Nat} {u0 u1 u2 u3 u4 u5 u6 u7 u8 u9 u10:Value} (h:Whole W g 28 zeroM):Whole (puts W g [u0,u1,u2,u3,u4,u5,u6,u7,u8,u9,u10] 0) g 28 #[u0,u1,u2,u3,u4,u5,u6,u7,u8,u9,u10]:=by
 have e:putsA zeroM [u0,u1,u2,u3,u4,u5,u6,u7,u8,u9,u10] 0=#[u0,u1,u2,u3,u4,u5,u6,u7,u8,u9,u10]:=by
  unfold zeroM
  simp only [putsA,List.setIfInBounds_toArray,List.set_cons_succ,List.set_cons_zero]
 have:=puts_same [u0,u1,u2,u3,u4,u5,u6,u7,u8,u9,u10] 0 W zeroM h
 rw [e] at this
 exact this
theorem attrsM_few' {p:PartS} {m:MediaS} (h:IsM p m):(p.attrs.filter known).length≤64:=by
 obtain ⟨h1,-,-,h4⟩:=h
 unfold mayM at h1
 rw [Bool.and_eq_true,decide_eq_true_eq] at h1
 rw [←h4]
 exact h1.2
theorem not_isM_many {p:PartS} (h:64<(p.attrs.filter known).length):∀m',TypedM m'→¬IsM p m':=fun m' _ hi=>by
 have:=attrsM_few' hi
 omega
attribute [local go_sem] Oper.semAt_some
end Go.Proofs.YtgnpckelbokniaaGreatDoor
