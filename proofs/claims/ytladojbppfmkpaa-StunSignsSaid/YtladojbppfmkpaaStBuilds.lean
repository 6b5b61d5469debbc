/- The law StunBuilds. -/
import Derived.Test.YtladojbppfmkpaaStAwake
import Derived.Test.YtladojbppfmkpaaOpenMsg
namespace Go.Proofs.Ytladojbppfmkpaa
open Go.RowKit
set_option linter.unusedVariables false

/-- What a Build answers. -/
def BuiltV (w w' : World) (m : Msg) (v : Value) (e : Int) : Prop := (Valid m ∧ e = 0 ∧ Own8 w' w.heap.size v (msgBytes m)) ∨ (¬ Valid m ∧ e = 1 ∧ v = .slice none 0 0)
theorem build_v (M : Array Value) (m : Msg) (A : Option Addr) (c : Nat) (w : World) (h : MsgV w w.heap.size M m A c) :
    Calls Try.prog 11 #[.agg M] w fun e w' => ∃ v x, e = .returned (.tuple #[v, .int .i64 x]) ∧ BuiltV w w' m v x ∧ Below w.heap.size w w' :=
  (build_any M m A c w h).mono fun e w' ⟨hr, hb⟩ => by
    rcases hr with ⟨a1, v, a2, a3, -⟩ | ⟨a1, a2⟩
    · exact ⟨v, 0, a2, .inl ⟨a1, rfl, a3⟩, hb⟩
    · exact ⟨_, 1, a2, .inr ⟨a1, rfl, rfl⟩, hb⟩
theorem rbuild_v (M : Array Value) (m : Msg) (A : Option Addr) (c : Nat) (w : World) (h : MsgV w w.heap.size M m A c) (hf : Fine m) :
    Calls Try.prog 10 #[.agg M] w fun e w' => ∃ v x, e = .returned (.tuple #[v, .int .i64 x]) ∧ BuiltV w w' m v x ∧ Below w.heap.size w w' :=
  (rbuild_any M m A c w h hf).mono fun e w' ⟨hr, hb⟩ => by
    rcases hr with ⟨a1, v, a2, a3⟩ | ⟨a1, a2⟩
    · exact ⟨v, 0, a2, .inl ⟨a1, rfl, a3⟩, hb⟩
    · exact ⟨_, 1, a2, .inr ⟨a1, rfl, rfl⟩, hb⟩

set_option maxHeartbeats 1600000 in
set_option maxRecDepth 100000 in
theorem builds_walk (M : Array Value) (m : Msg) (A : Option Addr) (c : Nat) (w : World) (h : InMsg w M m A c) :
    Calls Try.prog 3 #[.agg M] w fun e w' => e = .returned (.bool true) ∧ Below w.heap.size w w' := by
  have HM := Lib.hid h
  have HSZ := Lib.hid (And.intro h.msg.size h.msg.one)
  have hg := Whole.new w 25 M
  have hb0 : Below w.heap.size w (w.alloc (.cells M 25)) := (Below.refl _ w).alloc (Nat.le_refl _) _
  have HG := Lib.hid (And.intro hg hb0)
  have HAW : Hid (∀ W, Calls Try.prog 9 #[] W fun e w' => e = .returned (.bool true) ∧ Below W.heap.size W w') := Lib.hid awake_yes
  clear h hg hb0
  obtain ⟨N, hN⟩ : ∃ N, w.heap.size = N := ⟨_, rfl⟩
  have HN := Lib.hid hN
  rw [hN] at HG
  go_enter Try.func3, Try.ntmps3
  go_upto_region 1 with fail
  generalize w.alloc (.cells M 25) = W0 at *
  clear hN
  go_upto_region 3 with (go_at_call 9; (with_reducible refine (HAW.out _).mono ?_); rintro e w1 ⟨rfl, hb1⟩)
  have hg1 := HG.out.1.under hb1
  have hbl1 := HG.out.2.trans (hb1.mono (Nat.le_of_lt HG.out.1.lt))
  have HB := Lib.hid (rbuild_v M m A c w1 ((HM.out.msg.below (by rw [HN.out]; exact hbl1)).more (by rw [HN.out]; exact Nat.le_of_lt hg1.lt)) HM.out.fine)
  have H1 := Lib.hid (And.intro hg1 hbl1)
  clear hg1 hbl1 hb1
  go_upto_region 4 with (first
    | (refine wpList_load_all rfl 25 (.tmp 1) rfl H1.out.1 rfl Try.sizeRMsg HSZ.out.1 Try.underlying25 rfl ?_)
    | (go_at_call 10; (with_reducible refine HB.out.mono ?_); rintro e w2 ⟨v2, x2, rfl, ho2, hb2⟩))
  have hg2 := H1.out.1.under hb2
  have hbl2 := H1.out.2.trans (hb2.mono (Nat.le_of_lt H1.out.1.lt))
  have HT := Lib.hid (theirs_any M m A c w2 ((HM.out.msg.below (by rw [HN.out]; exact hbl2)).more (by rw [HN.out]; exact Nat.le_of_lt hg2.lt)) HM.out.most HM.out.lens)
  have HBU : Hid (∀ W M' A' c', MsgV W W.heap.size M' m A' c' → Calls Try.prog 11 #[.agg M'] W fun e w' => ∃ v x, e = .returned (.tuple #[v, .int .i64 x]) ∧ BuiltV W w' m v x ∧ Below W.heap.size W w') := Lib.hid fun W M' A' c' h => build_v M' m A' c' W h
  have H2 := Lib.hid (And.intro hg2 hbl2)
  have HO2 := Lib.hid ho2
  clear hg2 hbl2 hb2 ho2
  go_upto_region 5 with (first
    | (refine wpList_load_all rfl 25 (.tmp 1) rfl H2.out.1 rfl Try.sizeRMsg HSZ.out.1 Try.underlying25 rfl ?_)
    | (go_at_call 12; (with_reducible refine HT.out.mono ?_); rintro e w3 ⟨M3, A3, c3, rfl, hc3⟩)
    | (go_at_call 11; (with_reducible refine (HBU.out _ _ _ _ hc3.msg).mono ?_); rintro e w4 ⟨v4, x4, rfl, ho4, hb4⟩))
  have s2 := H2.out.1.lt
  have s3 := hc3.below.size
  have s4 := hb4.size
  have hb24 : Below w2.heap.size w2 w4 := hc3.below.trans (hb4.mono s3)
  have hbl4 := H2.out.2.trans (hb24.mono (Nat.le_of_lt s2))
  have HB4 := Lib.hid hbl4
  rcases HO2.out with ⟨hv, rfl, ho2⟩ | ⟨hv, rfl, rfl⟩
  · rcases ho4 with ⟨-, rfl, ho4⟩ | ⟨hn, -⟩
    · obtain ⟨A2, c2, rfl, -, -, n2, bs2⟩ := ho2.form
      obtain ⟨A4, c4, rfl, -, -, n4, bs4⟩ := ho4.form
      have hcv2 := conv_text (bs2.below hb24) n2
      have hcv4 := conv_text bs4 n4
      obtain ⟨l, hl⟩ : ∃ x, (msgBytes m).length = x := ⟨_, rfl⟩
      rw [hl] at hcv2 hcv4 ⊢
      clear ho2 ho4 bs2 bs4 hbl4 hb24 hb4 hc3 hl
      go_wp2
      go_ret
      exact ⟨rfl, by rw [HN.out]; exact HB4.out⟩
    · exact absurd hv hn
  · rcases ho4 with ⟨hn, -⟩ | ⟨-, rfl, rfl⟩
    · exact absurd hn hv
    · have hcv := fun W => conv_text (w := W) (B := 0) (A := none) (n := 0) (c := 0) (xs := []) ⟨rfl, fun h => by omega⟩ (fun _ => rfl)
      clear hbl4 hb24 hb4 hc3
      go_wp2
      go_ret
      exact ⟨rfl, by rw [HN.out]; exact HB4.out⟩
end Go.Proofs.Ytladojbppfmkpaa
