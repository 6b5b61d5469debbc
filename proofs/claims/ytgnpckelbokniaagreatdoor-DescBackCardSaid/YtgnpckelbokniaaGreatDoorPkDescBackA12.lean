import Derived.Test.YtgnpckelbokniaaGreatDoorPkDescBackA00
import Derived.Test.YtgnpckelbokniaaGreatDoorPkDescBackA07
namespace Go.Proofs.YtgnpckelbokniaaGreatDoor
open Go.RowKit
set_option linter.unusedVariables false
set_option linter.unusedSimpArgs false
theorem Tryz.sizeU8 (w:World):(sizeOf 5).run Tryz.prog w=.ok 1 w:=by kernel_rfl
theorem cry_part0:∀(k0 k1 k2 k3 k4 k5 k6 k7 k8 k9 k10 k11 k12 k13 k14 k15 k16 k17 k18 k19 k20 k21 k22 k23 k24 k25 k26 k27 k28 k29:UInt8) (z:Int) (w:World),(part 3 (#[.int .i64 z,.int .u8 (k0.toNat:Int),.int .u8 (k1.toNat:Int),.int .u8 (k2.toNat:Int),.int .u8 (k3.toNat:Int),.int .u8 (k4.toNat:Int),.int .u8 (k5.toNat:Int),.int .u8 (k6.toNat:Int),.int .u8 (k7.toNat:Int),.int .u8 (k8.toNat:Int),.int .u8 (k9.toNat:Int),.int .u8 (k10.toNat:Int),.int .u8 (k11.toNat:Int),.int .u8 (k12.toNat:Int),.int .u8 (k13.toNat:Int),.int .u8 (k14.toNat:Int),.int .u8 (k15.toNat:Int),.int .u8 (k16.toNat:Int),.int .u8 (k17.toNat:Int),.int .u8 (k18.toNat:Int),.int .u8 (k19.toNat:Int),.int .u8 (k20.toNat:Int),.int .u8 (k21.toNat:Int),.int .u8 (k22.toNat:Int),.int .u8 (k23.toNat:Int),.int .u8 (k24.toNat:Int),.int .u8 (k25.toNat:Int),.int .u8 (k26.toNat:Int),.int .u8 (k27.toNat:Int),.int .u8 (k28.toNat:Int),.int .u8 (k29.toNat:Int)]:Array Value) 0).run Tryz.prog w=.ok (.int .i64 z) w:=by intros;kernel_rfl
theorem cry_part1:∀(k0 k1 k2 k3 k4 k5 k6 k7 k8 k9 k10 k11 k12 k13 k14 k15 k16 k17 k18 k19 k20 k21 k22 k23 k24 k25 k26 k27 k28 k29:UInt8) (z:Int) (w:World),(part 73 (#[.int .i64 z,.int .u8 (k0.toNat:Int),.int .u8 (k1.toNat:Int),.int .u8 (k2.toNat:Int),.int .u8 (k3.toNat:Int),.int .u8 (k4.toNat:Int),.int .u8 (k5.toNat:Int),.int .u8 (k6.toNat:Int),.int .u8 (k7.toNat:Int),.int .u8 (k8.toNat:Int),.int .u8 (k9.toNat:Int),.int .u8 (k10.toNat:Int),.int .u8 (k11.toNat:Int),.int .u8 (k12.toNat:Int),.int .u8 (k13.toNat:Int),.int .u8 (k14.toNat:Int),.int .u8 (k15.toNat:Int),.int .u8 (k16.toNat:Int),.int .u8 (k17.toNat:Int),.int .u8 (k18.toNat:Int),.int .u8 (k19.toNat:Int),.int .u8 (k20.toNat:Int),.int .u8 (k21.toNat:Int),.int .u8 (k22.toNat:Int),.int .u8 (k23.toNat:Int),.int .u8 (k24.toNat:Int),.int .u8 (k25.toNat:Int),.int .u8 (k26.toNat:Int),.int .u8 (k27.toNat:Int),.int .u8 (k28.toNat:Int),.int .u8 (k29.toNat:Int)]:Array Value) 1).run Tryz.prog w=.ok (.agg #[.int .u8 (k0.toNat:Int),.int .u8 (k1.toNat:Int),.int .u8 (k2.toNat:Int),.int .u8 (k3.toNat:Int),.int .u8 (k4.toNat:Int),.int .u8 (k5.toNat:Int),.int .u8 (k6.toNat:Int),.int .u8 (k7.toNat:Int),.int .u8 (k8.toNat:Int),.int .u8 (k9.toNat:Int),.int .u8 (k10.toNat:Int),.int .u8 (k11.toNat:Int),.int .u8 (k12.toNat:Int),.int .u8 (k13.toNat:Int),.int .u8 (k14.toNat:Int),.int .u8 (k15.toNat:Int),.int .u8 (k16.toNat:Int),.int .u8 (k17.toNat:Int),.int .u8 (k18.toNat:Int),.int .u8 (k19.toNat:Int),.int .u8 (k20.toNat:Int),.int .u8 (k21.toNat:Int),.int .u8 (k22.toNat:Int),.int .u8 (k23.toNat:Int),.int .u8 (k24.toNat:Int),.int .u8 (k25.toNat:Int),.int .u8 (k26.toNat:Int),.int .u8 (k27.toNat:Int),.int .u8 (k28.toNat:Int),.int .u8 (k29.toNat:Int)]) w:=by intros;kernel_rfl
set_option maxRecDepth 10000 in
theorem cry_p0 (z:Int) (k:Tx) (hk:k.length=30) (w:World):(part 3 (cryC ⟨z,k⟩).toArray 0).run Tryz.prog w=.ok (.int .i64 z) w:=by
 match k,hk with
 | [k0,k1,k2,k3,k4,k5,k6,k7,k8,k9,k10,k11,k12,k13,k14,k15,k16,k17,k18,k19,k20,k21,k22,k23,k24,k25,k26,k27,k28,k29],_=>exact cry_part0 k0 k1 k2 k3 k4 k5 k6 k7 k8 k9 k10 k11 k12 k13 k14 k15 k16 k17 k18 k19 k20 k21 k22 k23 k24 k25 k26 k27 k28 k29 z w
set_option maxRecDepth 10000 in
theorem cry_p1 (z:Int) (k:Tx) (hk:k.length=30) (w:World):(part 73 (cryC ⟨z,k⟩).toArray 1).run Tryz.prog w=.ok (.agg (keyC k).toArray) w:=by
 match k,hk with
 | [k0,k1,k2,k3,k4,k5,k6,k7,k8,k9,k10,k11,k12,k13,k14,k15,k16,k17,k18,k19,k20,k21,k22,k23,k24,k25,k26,k27,k28,k29],_=>exact cry_part1 k0 k1 k2 k3 k4 k5 k6 k7 k8 k9 k10 k11 k12 k13 k14 k15 k16 k17 k18 k19 k20 k21 k22 k23 k24 k25 k26 k27 k28 k29 z w
theorem cry_fields:(Tryz.prog.fieldsOf 75).toList.map (fun f=>(f.type,f.offset))=[(3,0),(73,1)]:=by kernel_rfl
theorem cry_names : (Tryz.prog.fieldsOf 75).toList.all (fun f => f.name != "_") = true := by kernel_rfl
theorem crypto_guard:Tryz.prog.eqGuardType Tryz.prog.depth 75=false:=by kernel_rfl
theorem ext_guard:Tryz.prog.eqGuardType Tryz.prog.depth 71=false:=by kernel_rfl
end Go.Proofs.YtgnpckelbokniaaGreatDoor
