/- The document's Same: two values that read as one message. -/
import Derived.Test.YtladojbppfmkpaaStOurs
import Derived.Test.YtladojbppfmkpaaArrEq
namespace Go.Proofs.Ytladojbppfmkpaa
open Go.RowKit
set_option linter.unusedVariables false

theorem same12 (L : List Int) (hL : L.length = 12) (w : World) : (Op.equalIn 10000 22 (.agg (arr .u8 L)) (.agg (arr .u8 L))).run Try.prog w = .ok true w :=
  run_equalIn_same 9998 22 5 12 Try.underlying22 Try.underlying5 Try.sizeU8 L hL w
theorem Try.guard22 : Try.prog.eqGuardType Try.prog.depth 22 = false := by kernel_rfl

theorem wpList_load_midG {ops : Array Oper} {rest : List Oper} {op : Oper} {a : Act} {w : World} {Q : Exit → Act → World → Prop} (hw : Region.wanted op (yielded ops a.tmps) = true) (ty : TypeId) (x : Operand) (ho : op.op = .load ty x)
    (b o : Nat) (hx : a.eval x = .pointer (some ⟨b, o, none⟩)) (cs : List Value) (d : TypeDesc) (hc : w.rangeAt b o cs)
    (hu : Try.prog.underlying ty = some d) (hd : d.isRow = true) (hi : (Try.prog.info? ty).map (·.size) = some cs.length)
    (h : wpList Try.prog ops Q rest (a.put op.dst (.agg cs.toArray)) w) : wpList Try.prog ops Q (op :: rest) a w :=
  wpList_step fun K hK => by rw [if_pos hw]; exact wp_load_mid ty x ho b o hx cs d hc hu hd hi (hK _ _ h)
/-- An attribute of two messages, in a world in which nothing below N has turned. -/
structure Two2 (W : World) (k : Nat) (ad ad' : Addr) (a : At) (B B' : Option Addr) (d d' : Nat) : Prop where
  t : W.cell? (ad.add (k * 2)) = some (.int .u16 a.ty)
  v : W.cell? ⟨(ad.add (k * 2)).block, (ad.add (k * 2)).off + 1, none⟩ = some (.slice B a.val.length d)
  t' : W.cell? (ad'.add (k * 2)) = some (.int .u16 a.ty)
  v' : W.cell? ⟨(ad'.add (k * 2)).block, (ad'.add (k * 2)).off + 1, none⟩ = some (.slice B' a.val.length d')
  c : (convert 27 9 (.slice B a.val.length d)).run Try.prog W = .ok (.string (strOfNums a.val)) W
  c' : (convert 27 9 (.slice B' a.val.length d')).run Try.prog W = .ok (.string (strOfNums a.val)) W

set_option maxHeartbeats 1600000 in
set_option maxRecDepth 100000 in
theorem same_yes (M M' : Array Value) (m : Msg) (A A' : Option Addr) (c c' : Nat) (w : World) (h : MsgV w w.heap.size M m A c) (h' : MsgV w w.heap.size M' m A' c') :
    Calls Try.prog 15 #[.agg M, .agg M'] w fun e w' => e = .returned (.bool true) ∧ Below w.heap.size w w' := by
  have heq := same12 m.id h.id12
  have hgd := Try.guard22
  have hidl : (m.id.map (Value.int .u8)).length = 12 := by rw [List.length_map]; exact h.id12
  have harr : arr .u8 m.id = (m.id.map (Value.int .u8)).toArray := rfl
  rw [harr] at heq
  have g0 := (Whole.new w 25 M).alloc (.cells M' 25)
  have g1 := Whole.new2 w (.cells M 25) 25 M'
  have hb := two_new (w := w) 25 25 M M'
  have hml : m.at_.length ≤ maxLen := Nat.le_trans h.fits h.most
  unfold maxLen at hml
  have HM := Lib.hid (And.intro h h')
  have HG := Lib.hid (And.intro g0 (And.intro g1 hb))
  clear h h' g0 g1 hb harr
  obtain ⟨ids, hids⟩ : ∃ x, (m.id.map (Value.int .u8)) = x := ⟨_, rfl⟩
  rw [hids] at heq hidl
  have HID := Lib.hid (And.intro hids hidl)
  clear hids hidl
  obtain ⟨N, hN⟩ : ∃ N, w.heap.size = N := ⟨_, rfl⟩
  have HN := Lib.hid hN
  rw [hN] at HM HG
  go_enter Try.func15, Try.ntmps15
  go_upto_region 1 with fail
  generalize (w.alloc (.cells M 25)).alloc (.cells M' 25) = W0 at *
  clear hN
  have x0 := HM.out.1.cl HG.out.1
  have x1 := HM.out.1.me HG.out.1
  have x14 := HM.out.1.sl HG.out.1
  have y0 := HM.out.2.cl HG.out.2.1
  have y1 := HM.out.2.me HG.out.2.1
  have y14 := HM.out.2.sl HG.out.2.1
  have xid := HM.out.1.id HG.out.1
  have yid := HM.out.2.id HG.out.2.1
  rw [HID.out.1] at xid yid
  have HXY := Lib.hid (And.intro xid yid)
  clear xid yid
  obtain ⟨cl, hcl⟩ : ∃ x, m.cl = x := ⟨_, rfl⟩
  obtain ⟨me, hme⟩ : ∃ x, m.me = x := ⟨_, rfl⟩
  obtain ⟨n, hn⟩ : ∃ x, m.at_.length = x := ⟨_, rfl⟩
  have HE := Lib.hid hn
  rw [hcl] at x0 y0
  rw [hme] at x1 y1
  rw [hn] at x14 y14 hml
  clear hcl hme hn
  go_upto_region 3 with (first
    | (refine wpList_load_midG (by rfl) 22 (.tmp 19) rfl N 2 rfl ids _ HXY.out.1 Try.underlying22 rfl (by rw [HID.out.2]; exact Try.sizeA12) ?_)
    | (refine wpList_load_midG (by rfl) 22 (.tmp 21) rfl (N + 1) 2 rfl ids _ HXY.out.2 Try.underlying22 rfl (by rw [HID.out.2]; exact Try.sizeA12) ?_))
  have H0 := Lib.hid (And.intro HG.out.2.2 (And.intro HG.out.1 HG.out.2.1))
  go_wp2
  go_loopw [37] (fun s37 wr => ∃ k : Nat, k ≤ n ∧ s37 = .int .i64 k ∧ Below N w wr ∧ Whole wr N 25 M ∧ Whole wr (N + 1) 25 M') (fun s37 _ => n - (intOf s37).toNat)
  case atStart => exact ⟨0, by omega, rfl, H0.out⟩
  case round =>
    obtain ⟨k, hk, rfl, hb, hg, hg'⟩ := hrel
    by_cases hlt : k < n
    · have hlt' : k < m.at_.length := by rw [HE.out]; exact hlt
      clear x0 x1 x14 y0 y1 y14 heq hgd
      obtain ⟨ad, B, d, rfl, had, c0, c1, -, -, hnil, hbs⟩ := (HM.out.1.ats.below hb).at_ hlt'
      obtain ⟨ad', B', d', rfl, had', c0', c1', -, -, hnil', hbs'⟩ := (HM.out.2.ats.below hb).at_ hlt'
      have x14 : wr.cell? ⟨N, 14, none⟩ = some (.slice (some ad) n c) := by have := HM.out.1.sl hg; rw [HE.out] at this; exact this
      have y14 : wr.cell? ⟨N + 1, 14, none⟩ = some (.slice (some ad') n c') := by have := HM.out.2.sl hg'; rw [HE.out] at this; exact this
      obtain ⟨a, ha⟩ : ∃ a, m.at_.getD k default = a := ⟨_, rfl⟩
      rw [ha] at c0 c1 c0' c1' hbs hbs'
      obtain ⟨l, hl⟩ : ∃ x, a.val.length = x := ⟨_, rfl⟩
      rw [hl] at c1 c1' hbs hbs'
      have q1 : ∀ n, (convert 27 9 (.slice B l d)).run Try.prog (wr.drewN n) = .ok (.string (strOfNums a.val)) (wr.drewN n) := fun n => conv_text (w := wr.drewN n) hbs hnil
      have q2 : ∀ n, (convert 27 9 (.slice B' l d')).run Try.prog (wr.drewN n) = .ok (.string (strOfNums a.val)) (wr.drewN n) := fun n => conv_text (w := wr.drewN n) hbs' hnil'
      obtain ⟨s, hs⟩ : ∃ s, strOfNums a.val = s := ⟨_, rfl⟩
      simp only [hs] at q1 q2
      obtain ⟨ty, hty⟩ : ∃ x, a.ty = x := ⟨_, rfl⟩
      rw [hty] at c0 c0'
      have HR := Lib.hid (And.intro hb (And.intro hg hg'))
      have hb0 : (0 : Int) ≤ (k : Int) := by omega
      have hb1 : (k : Int) < (n : Int) := by omega
      clear hb hg hg' hbs hbs' hnil hnil' ha hl hs hty
      go_upto_region 6 with fail
      go_quiet (fail)
      go_wp2
      go_roundw
      case rel => exact ⟨k + 1, by omega, by go_num, below_drewN' HR.out.1 _, HR.out.2.1.drewN _, HR.out.2.2.drewN _⟩
      case measure => simp [intOf]; omega
    · obtain rfl : k = n := by omega
      have HR := Lib.hid hb
      clear hb hg hg'
      go_wp2
      go_ret
      exact ⟨rfl, by rw [HN.out]; exact HR.out⟩
end Go.Proofs.Ytladojbppfmkpaa
