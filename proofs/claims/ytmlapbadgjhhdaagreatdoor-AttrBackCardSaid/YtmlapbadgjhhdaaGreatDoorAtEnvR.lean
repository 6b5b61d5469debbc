/- What a row's list of laid variables gives. -/
import Derived.Test.YtmlapbadgjhhdaaGreatDoorAtLeaf
import Derived.Lib.LaidTab
import Derived.OpenShut
import Derived.ChangeArms
import Derived.Test.YtmlapbadgjhhdaaGreatDoorAtRd1
import Derived.LaidLaws
namespace Go.Proofs.YtmlapbadgjhhdaaGreatDoor
open Go.RowKit Go.ChangeShapes Go.WideShapes Go.ChangeAt
set_option linter.unusedVariables false
set_option linter.unusedSimpArgs false

theorem laid_at {P : Program} {W : World} : ∀ {laid : List (String × DataW Unit)} {ps : List MemPlace}, DataW.LaidVars P W laid ps → ∀ {n : String} {d : DataW Unit}, (n, d) ∈ laid →
    ∃ g t cs fuel p, P.globalNamed n = some g ∧ (P.globals[g]?).map (·.type) = some t ∧ W.var? P n = some cs ∧ DataW.trod (fun _ => ()) P W 0 (fun _ => true) false fuel t cs.toList = some (d, p)
  | [], _, _, _, _, hm => by cases hm
  | (n0, d0) :: r, ps, h, n, d, hm => by
    obtain ⟨g, t, cs, fuel, p, q, h1, h2, h3, h4, h5, _⟩ := h
    rcases List.mem_cons.1 hm with e | hm
    · injection e with e1 e2
      subst e1 e2
      exact ⟨g, t, cs, fuel, p, h1, h2, h3, h4⟩
    · exact laid_at h5 hm
set_option maxRecDepth 100000 in
theorem laid_tab {W : World} {laid : List (String × DataW Unit)} (h : laidMet Tryz.prog laid W) {name : String} {k : IntKind} {zs : List Int} (hm : (name, Lib.tabData k zs) ∈ laid) {g : Nat} {t e : TypeId} {n : Nat}
    (hg : Tryz.prog.globalNamed name = some g) (hty : (Tryz.prog.globals[g]?).map (·.type) = some t) (ht : Tryz.prog.underlying t = some (.array n e)) (he : Tryz.prog.underlying e = some (.int k)) (hce : Tryz.prog.cellsOf e = 1) (hct : Tryz.prog.cellsOf t = n) : Lib.TabIs Tryz.prog W name k zs := by
  obtain ⟨ps, hv, _⟩ := h
  obtain ⟨g', t', cs, fuel, p, hg', ht', hvar, hd⟩ := laid_at hv hm
  obtain rfl := Option.some.inj (hg.symm.trans hg')
  obtain rfl := Option.some.inj (hty.symm.trans ht')
  unfold Lib.TabIs
  rw [hvar, ← Lib.cells_of_tab ht he hce hct hd]
set_option maxRecDepth 100000 in
theorem laid_strs {W : World} {laid : List (String × DataW Unit)} (h : laidMet Tryz.prog laid W) {name : String} {ss : List Tx} (hm : (name, (.agg (ss.map fun s => .lit (.string s)) : DataW Unit)) ∈ laid) {g : Nat} {t : TypeId} {n : Nat}
    (hg : Tryz.prog.globalNamed name = some g) (hty : (Tryz.prog.globals[g]?).map (·.type) = some t) (ht : Tryz.prog.underlying t = some (.array n 9)) (hn : ss.length = n) (i : Nat) (s : Tx) (hi : ss[i]? = some s) : W.cell? ⟨g, i, none⟩ = some (.string (bs s)) := by
  obtain ⟨ps, hv, _⟩ := h
  obtain ⟨g', t', cs, fuel, p, hg', ht', hvar, hd⟩ := laid_at hv hm
  obtain rfl := Option.some.inj (hg.symm.trans hg')
  obtain rfl := Option.some.inj (hty.symm.trans ht')
  obtain ⟨xs, m, _, hx, hcl, hxl, hat⟩ := DataW.trod_array ht hd
  have hil : i < n := by rw [← hn]; exact (List.getElem?_eq_some_iff.1 hi).1
  have h1 := hat i hil
  rw [show Tryz.prog.cellsOf 9 = 1 by kernel_rfl, Nat.mul_one] at h1
  have hxe : xs[i]? = some (xs[i]'(by omega)) := List.getElem?_eq_getElem (by omega)
  rw [hxe] at h1
  obtain ⟨u, e1, e2, _⟩ := DataW.trod_string Tryz.underlying9 h1
  have hag : (ss.map fun s => (.lit (.string s) : DataW Unit)) = xs.map (·.1) := by
    injection hx with hx1 _
    injection hx1
  have h3 := congrArg (fun l => l[i]?) hag
  simp only [List.getElem?_map, hi, hxe, Option.map_some] at h3
  have h4 : s = u.data.toList := by
    have h5 := Option.some.inj h3
    rw [e2] at h5
    injection h5 with h6
    injection h6
  rw [World.var?_cell hg hvar i]
  have h7 := congrArg (fun l => l[0]?) e1
  simp only [List.getElem?_take, List.getElem?_drop, List.getElem?_cons_zero] at h7
  simp at h7
  rw [h7, h4]
  rfl
set_option maxRecDepth 100000 in
/-- What this seat's rows lay: the tables lie. -/
theorem env_of {W : World} {laid : List (String × DataW Unit)} (h : laidMet Tryz.prog laid W)
    (h1 : ("internal/strconv.uint64pow10", Lib.tabData .u64 Lib.pow10Tab) ∈ laid)
    (h2 : ("rostrum/attr.kinds", (.agg ([[], wAudio, wVideo, wApplication].map fun s => .lit (.string s)) : DataW Unit)) ∈ laid)
    (h3 : ("rostrum/attr.directions", (.agg ([nInactive, nSendonly, nRecvonly, nSendrecv].map fun s => .lit (.string s)) : DataW Unit)) ∈ laid) : Env W := by
  have hk := laid_strs h h2 (g := 1) (t := 96) (n := 4) (by kernel_rfl) (by kernel_rfl) Tryz.underlying96 rfl
  have hd := laid_strs h h3 (g := 0) (t := 96) (n := 4) (by kernel_rfl) (by kernel_rfl) Tryz.underlying96 rfl
  refine ⟨laid_tab h h1 (g := 2) (t := 159) (e := 78) (n := 20) (by kernel_rfl) (by kernel_rfl) Tryz.underlying159 Tryz.underlying78 (by kernel_rfl) (by kernel_rfl), fun j hj => ?_, fun j h1 hj => ?_, hk 0 _ rfl⟩
  · have : j = 0 ∨ j = 1 ∨ j = 2 ∨ j = 3 := by omega
    rcases this with rfl | rfl | rfl | rfl
    · exact hd 0 _ rfl
    · exact hd 1 _ rfl
    · exact hd 2 _ rfl
    · exact hd 3 _ rfl
  · have : j = 1 ∨ j = 2 ∨ j = 3 := by omega
    rcases this with rfl | rfl | rfl
    · exact hk 1 _ rfl
    · exact hk 2 _ rfl
    · exact hk 3 _ rfl
set_option maxRecDepth 100000 in
theorem seven_of {W : World} {laid : List (String × DataW Unit)} (h : laidMet Tryz.prog laid W) {zs : List Int} (hz : 0 < zs.length) (h1 : ("math/bits.deBruijn32tab", Lib.tabData .u8 zs) ∈ laid) : 7 ≤ W.heap.size := by
  have ht := laid_tab h h1 (g := 6) (t := 178) (e := 5) (n := 32) (by kernel_rfl) (by kernel_rfl) Tryz.underlying178 Tryz.underlying5 (by kernel_rfl) (by kernel_rfl)
  exact block_lt_of_cell (ht.cell (g := 6) (by kernel_rfl) 0 hz)
end Go.Proofs.YtmlapbadgjhhdaaGreatDoor

namespace Go.Proofs.YtmlapbadgjhhdaaGreatDoor
open Go.RowKit Go.ChangeShapes Go.WideShapes Go.ChangeAt
set_option linter.unusedVariables false
set_option linter.unusedSimpArgs false

theorem laid_err {W : World} {laid : List (String × DataW Unit)} (h : laidMet Tryz.prog laid W) {name nm : String} {d : DataW Unit} (hm : (name, .iface nm d) ∈ laid) {g : Nat} {t : TypeId} {ms : Array (String × TypeId)}
    (hg : Tryz.prog.globalNamed name = some g) (hty : (Tryz.prog.globals[g]?).map (·.type) = some t) (hi : Tryz.prog.underlying t = some (.interface ms)) : ∃ ev, W.cell? ⟨g, 0, none⟩ = some ev ∧ (ev = .nilIface ∨ ∃ te pe, ev = .iface te pe) := by
  obtain ⟨ps, hv, _⟩ := h
  obtain ⟨g', t', cs, fuel, p, hg', ht', hvar, hd⟩ := laid_at hv hm
  obtain rfl := Option.some.inj (hg.symm.trans hg')
  obtain rfl := Option.some.inj (hty.symm.trans ht')
  obtain ⟨_, u, v, hcs, _, _⟩ := iface_of_trod hi hd
  refine ⟨.iface u v, ?_, .inr ⟨u, v, rfl⟩⟩
  rw [World.var?_cell hg hvar 0, ← Array.getElem?_toList, hcs]
  rfl
theorem envR_of {W : World} {laid : List (String × DataW Unit)} (h : laidMet Tryz.prog laid W) (hE : Env W) {n1 n2 : String} {d1 d2 : DataW Unit}
    (h1 : ("strconv.ErrSyntax", .iface n1 d1) ∈ laid) (h2 : ("strconv.ErrRange", .iface n2 d2) ∈ laid) : EnvR W :=
  ⟨hE, laid_err h h1 (t := 122) (by kernel_rfl) (by kernel_rfl) Tryz.underlying122, laid_err h h2 (t := 122) (by kernel_rfl) (by kernel_rfl) Tryz.underlying122⟩
end Go.Proofs.YtmlapbadgjhhdaaGreatDoor
