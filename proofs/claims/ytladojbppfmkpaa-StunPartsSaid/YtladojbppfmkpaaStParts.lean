/- The law StunParts. -/
import Derived.Test.YtladojbppfmkpaaStFail
import Derived.Test.YtladojbppfmkpaaStFind
import Derived.Test.YtladojbppfmkpaaStBack
import Derived.Test.YtladojbppfmkpaaOpenAddr
namespace Go.Proofs.Ytladojbppfmkpaa
open Go.RowKit
set_option linter.unusedVariables false
set_option linter.unusedSimpArgs false

theorem FindV.under {w w' : World} {v : Value} {b : Bool} {L : List At} {k : Int} (h : FindV w v b L k) (hb : Below w.heap.size w w') : FindV w' v b L k := by
  rcases h with ⟨xs, h1, h2, h3⟩ | h
  · exact .inl ⟨xs, h1, h2, (h3.below hb).more hb.size⟩
  · exact .inr h
/-- Two that are found say the same. -/
theorem FindV.both {w : World} {v v' : Value} {b b' : Bool} {L : List At} {k : Int} (h : FindV w v b L k) (h' : FindV w v' b' L k) : b = b' ∧ ∃ xs, V8 w w.heap.size v xs ∧ V8 w w.heap.size v' xs := by
  have hz : V8 w w.heap.size (.slice none 0 0) [] := ⟨none, 0, rfl, Nat.le_refl _, Nat.zero_le _, fun _ => rfl, rfl, fun hn => by simp at hn⟩
  rcases h with ⟨xs, e1, rfl, h3⟩ | ⟨e1, rfl, rfl⟩
  · rcases h' with ⟨ys, e2, rfl, h4⟩ | ⟨e2, _⟩
    · rw [e1] at e2
      cases e2
      exact ⟨rfl, xs, h3, h4⟩
    · rw [e1] at e2; cases e2
  · rcases h' with ⟨ys, e2, _⟩ | ⟨e2, rfl, rfl⟩
    · rw [e1] at e2; cases e2
    · exact ⟨rfl, [], hz, hz⟩
/-- An address's value, read, is the address. -/
theorem be4_num (x : Int) (h0 : 0 ≤ x) (h1 : x < 4294967296) : ((x / 16777216 % 256 * 256 + x / 65536 % 256) * 256 + x / 256 % 256) * 256 + x % 256 = x := by omega
theorem be2_num (x : Int) (h0 : 0 ≤ x) (h1 : x < 65536) : x / 256 % 256 * 256 + x % 256 = x := by omega
theorem read_map (ip po : Int) (i0 : 0 ≤ ip) (i1 : ip < 4294967296) (p0 : 0 ≤ po) (p1 : po < 65536) : readA (mapB ip po) = #[.int .u32 ip, .int .u16 po] ∧ readN (mapB ip po) = 0 := by
  have e1 : isAddr (mapB ip po) = true := rfl
  obtain ⟨q0, q1⟩ := xor32_in ip i0 i1
  obtain ⟨r0, r1⟩ := xor16_in po p0 p1
  have e2 : rdIP (mapB ip po) = ip := by
    show bits .xor .u32 (((bits .xor .u32 ip 554869826 / 16777216 % 256 * 256 + bits .xor .u32 ip 554869826 / 65536 % 256) * 256 + bits .xor .u32 ip 554869826 / 256 % 256) * 256 + bits .xor .u32 ip 554869826 % 256) 554869826 = ip
    rw [be4_num _ q0 q1, xor32_back ip i0 i1]
  have e3 : rdPort (mapB ip po) = po := by
    show bits .xor .u16 (bits .xor .u16 po 8466 / 256 % 256 * 256 + bits .xor .u16 po 8466 % 256) 8466 = po
    rw [be2_num _ r0 r1, xor16_back po p0 p1]
  unfold readA readN
  rw [if_pos e1, if_pos e1, e2, e3]
  exact ⟨rfl, rfl⟩
theorem in256_mapB (ip po : Int) : In256 (mapB ip po) := In256.append (a := [0, 1]) (In256.of_all (by simp)) (In256.append (in256_be2 _) (in256_be4 _))
theorem readA_two (xs : List Int) : ∃ a b : Int, readA xs = #[.int .u32 a, .int .u16 b] := by
  unfold readA
  split
  · exact ⟨_, _, rfl⟩
  · exact ⟨_, _, rfl⟩

/-- What is held may be said more narrowly from here on. -/
theorem wpAnyH_narrow {P : Program} {md : Region.Mode} {ops : Array Oper} {Q : Exit → Act → World → Prop} {S S' : World → Prop} (hSS : ∀ w, S' w → S w) : ∀ (fuel : Nat) (listed : Array Bool) (a : Act) (w : World), wpAnyH P md ops Q S' fuel listed a w → wpAnyH P md ops Q S fuel listed a w
  | 0, _, _, _, h => h
  | fuel + 1, _, _, _, h => ⟨h.1, fun i hi => wpOp_mono (fun a' w' h' => ⟨hSS _ h'.1, wpAnyH_narrow hSS fuel _ a' w' h'.2⟩) (h.2 i hi)⟩
theorem eq_addr (a b : Int) (W : World) : (binOp .eql 54 (.agg #[.int .u32 a, .int .u16 b]) (.agg #[.int .u32 a, .int .u16 b])).run Try.prog W = .ok (.bool true) W := by
  have h1 := Try.underlying54
  go_simp

/-- The two boxes, in a world behind w. -/
structure Pk (w : World) (N : Nat) (M D : Array Value) (wr : World) : Prop where
  box : Whole wr N 25 M
  adr : Whole wr (N + 1) 54 D
  below : Below N w wr
  wN : w.heap.size = N
section
variable {w wr w' : World} {N : Nat} {M D : Array Value} {m : Msg} {A : Option Addr} {c : Nat} {v : Value} {xs : List Int}
theorem Pk.le (h : Pk w N M D wr) : N ≤ wr.heap.size := Nat.le_of_lt h.box.lt
theorem Pk.under (h : Pk w N M D wr) (hb : Below wr.heap.size wr w') : Pk w N M D w' := ⟨h.box.under hb, h.adr.under hb, h.below.trans (hb.mono h.le), h.wN⟩
theorem Pk.msg (h : Pk w N M D wr) (hm : InMsg w M m A c) : MsgV wr wr.heap.size M m A c := by
  have := hm.msg
  rw [h.wN] at this
  exact (this.below h.below).more h.le
theorem Pk.v8 (h : Pk w N M D wr) (hv : V8 w w.heap.size v xs) : V8 wr wr.heap.size v xs := by
  rw [h.wN] at hv
  exact (hv.below h.below).more h.le
end

set_option maxHeartbeats 3200000 in
set_option maxRecDepth 100000 in
theorem parts_walk (M : Array Value) (m : Msg) (A : Option Addr) (c : Nat) (kd ip po : Int) (v : Value) (xs : List Int) (cd : Int) (w : World) (h : InMsg w M m A c) (wk : (Lit.int .u16 kd).wf = true) (wi : (Lit.int .u32 ip).wf = true) (wp : (Lit.int .u16 po).wf = true) (hv : V8 w w.heap.size v xs) (hx : In256 xs) (hl : xs.length ≤ 140737488351232) (wc : (Lit.int .i64 cd).wf = true) :
    Calls Try.prog 7 #[.agg M, .int .u16 kd, .agg #[.int .u32 ip, .int .u16 po], v, .int .i64 cd] w fun e w' => e = .returned (.bool true) ∧ Below w.heap.size w w' := by
  have hi : (0 ≤ ip ∧ ip < 4294967296) ∧ (0 ≤ po ∧ po < 65536) ∧ cd < 9223372036854775808 := by
    simp [Lit.wf, IntKind.min, IntKind.max, IntKind.signed, IntKind.bits] at wi wp wc
    omega
  have HI := Lib.hid hi
  have HM := Lib.hid h
  have HSZ := Lib.hid (And.intro h.msg.size h.msg.one)
  have HV := Lib.hid (And.intro hv (And.intro hx hl))
  have hm1 := read_map ip po hi.1.1 hi.1.2 hi.2.1.1 hi.2.1.2
  obtain ⟨D, hD⟩ : ∃ D, (#[.int .u32 ip, .int .u16 po] : Array Value) = D := ⟨_, rfl⟩
  have hDS : D.size = 2 ∧ D.all (·.oneCell') = true := by rw [← hD]; exact ⟨rfl, by simp [Value.oneCell']⟩
  have hmap : ∀ W, Calls Try.prog 25 #[.agg D] W fun e w' => ∃ v, e = .returned v ∧ Own8 w' W.heap.size v (mapB ip po) ∧ Below W.heap.size W w' := fun W => by rw [← hD]; exact mapped_any ip po W
  have hrmap : ∀ W, Calls Try.prog 26 #[.agg D] W fun e w' => ∃ v, e = .returned v ∧ Own8 w' W.heap.size v (mapB ip po) ∧ Below W.heap.size W w' := fun W => by rw [← hD]; exact rmapped_any ip po hi.2.1.1 hi.2.1.2 W
  rw [hD] at hm1 ⊢
  have hk0 : Pk w w.heap.size M D ((w.alloc (.cells M 25)).alloc (.cells D 54)) := ⟨(Whole.new w 25 M).alloc _, Whole.new2 w _ 54 D, two_new 25 54 M D, rfl⟩
  have HK0 := Lib.hid hk0
  have HD := Lib.hid (And.intro hD hDS)
  have HRM := Lib.hid hm1
  have HMAP := Lib.hid hmap
  have HRMAP := Lib.hid hrmap
  have HAW : Hid (∀ W, Calls Try.prog 9 #[] W fun e w' => e = .returned (.bool true) ∧ Below W.heap.size W w') := Lib.hid awake_yes
  have HTH : Hid (∀ W, Pk w w.heap.size M D W → Calls Try.prog 12 #[.agg M] W fun e w' => ∃ M' A' c', e = .returned (.agg M') ∧ Copied W w' m M' A' c') := Lib.hid fun W hk => theirs_any M m A c W (hk.msg h) h.most h.lens
  have HFI : Hid (∀ W M' A' c', MsgV W W.heap.size M' m A' c' → Calls Try.prog 21 #[.agg M', .int .u16 kd] W fun e w' => ∃ v b, e = .returned (.tuple #[v, .bool b]) ∧ FindV w' v b m.at_ kd ∧ Below W.heap.size W w') := Lib.hid fun W M' A' c' hm => find_any M' m A' c' kd W hm (fun a ha => h.lens a ha)
  have HRF : Hid (∀ W, Pk w w.heap.size M D W → Calls Try.prog 22 #[.agg M, .int .u16 kd] W fun e w' => ∃ v b, e = .returned (.tuple #[v, .bool b]) ∧ FindV w' v b m.at_ kd ∧ Below W.heap.size W w') := Lib.hid fun W hk => rfind_any M m A c kd W (hk.msg h)
  have HRD : Hid (∀ W, Pk w w.heap.size M D W → Calls Try.prog 23 #[v] W fun e w' => e = .returned (.tuple #[.agg (readA xs), .int .i64 (readN xs)]) ∧ Below W.heap.size W w') := Lib.hid fun W hk => readMapped_any v xs W (hk.v8 hv) hx (by omega)
  have HRR : Hid (∀ W, Pk w w.heap.size M D W → Calls Try.prog 24 #[v] W fun e w' => e = .returned (.tuple #[.agg (readA xs), .int .i64 (readN xs)]) ∧ Below W.heap.size W w') := Lib.hid fun W hk => rreadMapped_any v xs W (hk.v8 hv) hx (by omega)
  clear h hv hx hl hk0 hi wi wp wc wk hD hDS hm1 hmap hrmap
  obtain ⟨ea, eb, hab⟩ := readA_two xs
  obtain ⟨E, hE⟩ : ∃ E, readA xs = E := ⟨_, rfl⟩
  obtain ⟨en, hen⟩ : ∃ en, readN xs = en := ⟨_, rfl⟩
  rw [hE] at hab
  simp only [hE, hen] at HRD HRR
  have HES : Hid (E.size = 2 ∧ E.all (·.oneCell') = true) := Lib.hid (by rw [hab]; exact ⟨rfl, by simp [Value.oneCell']⟩)
  have HEE := Lib.hid hab
  clear hE hen hab
  have hz := Try.zeroAddr
  obtain ⟨Z, hZ⟩ : ∃ Z, (#[.int .u32 0, .int .u16 0] : Array Value) = Z := ⟨_, rfl⟩
  have HZS : Hid (Z.size = 2) := Lib.hid (by rw [← hZ]; rfl)
  simp only [hZ] at hz
  clear hZ
  obtain ⟨N, hN⟩ : ∃ N, w.heap.size = N := ⟨_, rfl⟩
  have HN := Lib.hid hN
  rw [hN] at HK0 HTH HRF HRD HRR
  go_enter Try.func7, Try.ntmps7
  go_upto_region 1 with fail
  generalize (w.alloc (.cells M 25)).alloc (.cells D 54) = W0 at *
  clear hN
  go_upto_region 3 with (go_at_call 9; (with_reducible refine (HAW.out _).mono ?_); rintro e w1 ⟨rfl, hb1⟩)
  have HK1 := Lib.hid (HK0.out.under hb1)
  clear hb1
  go_upto_region 4 with (first
    | (refine wpList_load_all rfl 25 (.tmp 5) rfl HK1.out.box rfl Try.sizeRMsg HSZ.out.1 Try.underlying25 rfl ?_)
    | (go_at_call 12; (with_reducible refine (HTH.out _ HK1.out).mono ?_); rintro e w3 ⟨M3, A3, c3, rfl, hc3⟩; have hk3 := HK1.out.under hc3.below)
    | (go_at_call 21; (with_reducible refine (HFI.out _ _ _ _ hc3.msg).mono ?_); rintro e w4 ⟨v4, b4, rfl, hf4, hb4⟩))
  have HK4 := Lib.hid (hk3.under hb4)
  have HF4 := Lib.hid hf4
  clear hc3 hk3 hf4 hb4
  go_upto_region 5 with (first
    | (refine wpList_load_all rfl 25 (.tmp 5) rfl HK4.out.box rfl Try.sizeRMsg HSZ.out.1 Try.underlying25 rfl ?_)
    | (go_at_call 22; (with_reducible refine (HRF.out _ HK4.out).mono ?_); rintro e w5 ⟨v5, b5, rfl, hf5, hb5⟩))
  have HK5 := Lib.hid (HK4.out.under hb5)
  have hff := (HF4.out.under hb5).both hf5
  obtain ⟨rfl, ys, hy4, hy5⟩ := hff
  have HY := Lib.hid (And.intro hy4 hy5)
  clear hf5 hb5 hy4 hy5
  go_upto_region 6 with (first
    | (go_at_call 23; (with_reducible refine (HRD.out _ HK5.out).mono ?_); rintro e w6 ⟨rfl, hb6⟩)
    | (refine wpList_store_whole rfl 54 (.tmp 15) (.tmp 39) rfl rfl rfl (Whole.new w6 54 Z) Try.sizeAddr HES.out.1 HZS.out HES.out.2 ?_))
  have hbw : Below w6.heap.size w6 ((w6.alloc (.cells Z 54)).setRow w6.heap.size E) := below_row ((Below.refl _ w6).alloc (Nat.le_refl _) _) (Nat.le_refl _) _
  have hg : Whole ((w6.alloc (.cells Z 54)).setRow w6.heap.size E) w6.heap.size 54 E := (Whole.new w6 54 Z).row _
  have hbb := hb6.trans (hbw.mono hb6.size)
  have HK6 := Lib.hid (And.intro (HK5.out.under hbb) (And.intro hg (And.intro ((HY.out.1.below hbb).more hbb.size) ((HY.out.2.below hbb).more hbb.size))))
  clear hb6 hbw hg hbb
  generalize (w6.alloc (.cells Z 54)).setRow w6.heap.size E = W6 at *
  generalize w6.heap.size = g6 at *
  go_upto_region 7 with (first
    | (go_at_call 24; (with_reducible refine (HRR.out _ HK6.out.1).mono ?_); rintro e w7 ⟨rfl, hb7⟩)
    | (refine wpList_store_whole rfl 54 (.tmp 17) (.tmp 44) rfl rfl rfl (Whole.new w7 54 Z) Try.sizeAddr HES.out.1 HZS.out HES.out.2 ?_))
  have hbw : Below w7.heap.size w7 ((w7.alloc (.cells Z 54)).setRow w7.heap.size E) := below_row ((Below.refl _ w7).alloc (Nat.le_refl _) _) (Nat.le_refl _) _
  have hg : Whole ((w7.alloc (.cells Z 54)).setRow w7.heap.size E) w7.heap.size 54 E := (Whole.new w7 54 Z).row _
  have hbb := hb7.trans (hbw.mono hb7.size)
  have HK7 := Lib.hid (And.intro (HK6.out.1.under hbb) (And.intro (HK6.out.2.1.under hbb) (And.intro hg (And.intro ((HK6.out.2.2.1.below hbb).more hbb.size) ((HK6.out.2.2.2.below hbb).more hbb.size)))))
  clear hb7 hbw hg hbb
  generalize (w7.alloc (.cells Z 54)).setRow w7.heap.size E = W7 at *
  generalize w7.heap.size = g7 at *
  go_upto_region 8 with (first
    | (refine wpList_load_all rfl 54 (.tmp 7) rfl HK7.out.1.adr rfl Try.sizeAddr HD.out.2.1 Try.underlying54 rfl ?_)
    | (go_at_call 25; (with_reducible refine (HMAP.out _).mono ?_); rintro e w8 ⟨v8, rfl, hv8, hb8⟩; have HR8 := Lib.hid (readMapped_any v8 (mapB ip po) w8 hv8.v8 (in256_mapB ip po) (by simp [mapB])))
    | (go_at_call 23; (with_reducible refine HR8.out.mono ?_); rw [HRM.out.1, HRM.out.2]; rintro e w9 ⟨rfl, hb9⟩)
    | (refine wpList_store_whole rfl 54 (.tmp 19) (.tmp 50) rfl rfl rfl (Whole.new w9 54 Z) Try.sizeAddr HD.out.2.1 HZS.out HD.out.2.2 ?_))
  have hbw : Below w9.heap.size w9 ((w9.alloc (.cells Z 54)).setRow w9.heap.size D) := below_row ((Below.refl _ w9).alloc (Nat.le_refl _) _) (Nat.le_refl _) _
  have hg : Whole ((w9.alloc (.cells Z 54)).setRow w9.heap.size D) w9.heap.size 54 D := (Whole.new w9 54 Z).row _
  have hbb := (hb8.trans (hb9.mono hb8.size)).trans (hbw.mono (Nat.le_trans hb8.size hb9.size))
  have HK9 := Lib.hid (And.intro (HK7.out.1.under hbb) (And.intro (HK7.out.2.1.under hbb) (And.intro (HK7.out.2.2.1.under hbb) (And.intro hg (And.intro ((HK7.out.2.2.2.1.below hbb).more hbb.size) ((HK7.out.2.2.2.2.below hbb).more hbb.size))))))
  clear hb8 hv8 hb9 hbw hg hbb HR8
  generalize (w9.alloc (.cells Z 54)).setRow w9.heap.size D = W9 at *
  generalize w9.heap.size = g9 at *
  obtain ⟨s, hs⟩ : ∃ s, strOfNums ys = s := ⟨_, rfl⟩
  have hc4 : ∀ W, Below W9.heap.size W9 W → (convert 27 9 v4).run Try.prog W = .ok (.string s) W := fun W hb => by
    obtain ⟨A', c', rfl, -, -, n', bs'⟩ := (HK9.out.2.2.2.2.1.below hb)
    rw [← hs]
    exact conv_text bs' n'
  have hc5 : ∀ W, Below W9.heap.size W9 W → (convert 27 9 v5).run Try.prog W = .ok (.string s) W := fun W hb => by
    obtain ⟨A', c', rfl, -, -, n', bs'⟩ := (HK9.out.2.2.2.2.2.below hb)
    rw [← hs]
    exact conv_text bs' n'
  have HC4 := Lib.hid hc4
  have HC5 := Lib.hid hc5
  clear hc4 hc5 hs
  have HEQ : Hid (∀ (a b : Int) W, (binOp .eql 54 (.agg #[.int .u32 a, .int .u16 b]) (.agg #[.int .u32 a, .int .u16 b])).run Try.prog W = .ok (.bool true) W) := Lib.hid eq_addr
  obtain ⟨LA, hLA⟩ : ∃ l, D.toList = l := ⟨_, rfl⟩
  obtain ⟨LM, hLM⟩ : ∃ l, M.toList = l := ⟨_, rfl⟩
  have eA : LA.toArray = D := by rw [← hLA]
  have eM : LM.toArray = M := by rw [← hLM]
  have HRA : Hid (∀ W, Below W9.heap.size W9 W → W.rangeAt g6 0 [.int .u32 ea, .int .u16 eb] ∧ W.rangeAt g7 0 [.int .u32 ea, .int .u16 eb] ∧ W.rangeAt g9 0 [.int .u32 ip, .int .u16 po] ∧ W.rangeAt (N + 1) 0 [.int .u32 ip, .int .u16 po] ∧ W.rangeAt (N + 1) 0 LA ∧ W.rangeAt N 0 LM) := Lib.hid fun W hb => by
    have f1 := (HK9.out.2.1.under hb).rangeA
    have f2 := (HK9.out.2.2.1.under hb).rangeA
    have f3 := (HK9.out.2.2.2.1.under hb).rangeA
    have f4 := ((HK9.out.1.under hb).adr).rangeA
    have f5 := ((HK9.out.1.under hb).box).rangeA
    rw [HEE.out] at f1 f2
    rw [hLM] at f5
    have f6 := f4
    rw [hLA] at f6
    rw [← HD.out.1] at f3 f4
    exact ⟨f1, f2, f3, f4, f6, f5⟩
  have HU : Hid (Try.prog.underlying 54 = some _ ∧ Try.prog.underlying 25 = some _ ∧ (Try.prog.info? 54).map (·.size) = some 2 ∧ (Try.prog.info? 54).map (·.size) = some LA.length ∧ (Try.prog.info? 25).map (·.size) = some LM.length) := Lib.hid ⟨Try.underlying54, Try.underlying25, Try.sizeAddr, by rw [← hLA, Array.length_toList, HD.out.2.1]; exact Try.sizeAddr, by rw [← hLM, Array.length_toList, HSZ.out.1]; exact Try.sizeRMsg⟩
  have HMA : Hid (∀ W, Calls Try.prog 25 #[.agg LA.toArray] W fun e w' => ∃ v, e = .returned v ∧ Own8 w' W.heap.size v (mapB ip po) ∧ Below W.heap.size W w') := Lib.hid fun W => by rw [eA]; exact HMAP.out W
  have HMB : Hid (∀ W, Calls Try.prog 26 #[.agg LA.toArray] W fun e w' => ∃ v, e = .returned v ∧ Own8 w' W.heap.size v (mapB ip po) ∧ Below W.heap.size W w') := Lib.hid fun W => by rw [eA]; exact HRMAP.out W
  have HTA : Hid (∀ W, Below W9.heap.size W9 W → Calls Try.prog 12 #[.agg LM.toArray] W fun e w' => ∃ M' A' c', e = .returned (.agg M') ∧ Copied W w' m M' A' c') := Lib.hid fun W hb => by rw [eM]; exact HTH.out W (HK9.out.1.under hb)
  have HFA : Hid (∀ W, Below W9.heap.size W9 W → Calls Try.prog 28 #[.agg LM.toArray, .int .i64 cd] W fun e w' => ∃ M' A' c', e = .returned (.agg M') ∧ MsgV w' w'.heap.size M' (failP m cd) A' c' ∧ Below W.heap.size W w') := Lib.hid fun W hb => by rw [eM]; exact rfailure_any M m A c cd HI.out.2.2 W ((HK9.out.1.under hb).msg HM.out)
  clear hLA hLM eA eM
  have hS0 : Below W9.heap.size W9 W9.drew := (Below.refl _ W9).drew
  have HBR : Hid (∀ W W', Below W9.heap.size W9 W → Below W.heap.size W W' → Below W9.heap.size W9 W') := Lib.hid fun W W' h1 h2 => h1.trans (h2.mono h1.size)
  refine wp_region_held_drew (S := fun W => Below W9.heap.size W9 W) (by kernel_rfl) hS0 (fun hHeld => ?_)
  refine wpAnyH_take (i := 0) (v := .bool b4) rfl (by kernel_rfl) (by kernel_rfl) (by kernel_rfl) (fun _ _ _ h => h) (Or.inl ⟨by rfl, fun w h => by go_simp⟩) (by assumption) ?_
  simp only [Act.put, List.getElem_toArray, List.getElem_cons_succ, List.getElem_cons_zero, List.setIfInBounds_toArray, List.set_cons_succ, List.set_cons_zero]
  refine wpAnyH_take (i := 1) (v := .bool b4) rfl (by kernel_rfl) (by kernel_rfl) (by kernel_rfl) (fun _ _ _ h => h) (Or.inl ⟨by rfl, fun w h => by go_simp⟩) (by assumption) ?_
  simp only [Act.put, List.getElem_toArray, List.getElem_cons_succ, List.getElem_cons_zero, List.setIfInBounds_toArray, List.set_cons_succ, List.set_cons_zero]
  refine wpAnyH_take (i := 2) (v := .bool true) rfl (by kernel_rfl) (by kernel_rfl) (by kernel_rfl) (fun _ _ _ h => h) (Or.inl ⟨by rfl, fun w h => by go_simp⟩) (by assumption) ?_
  simp only [Act.put, List.getElem_toArray, List.getElem_cons_succ, List.getElem_cons_zero, List.setIfInBounds_toArray, List.set_cons_succ, List.set_cons_zero]
  refine wpAnyH_take (i := 3) (v := .bool true) rfl (by kernel_rfl) (by kernel_rfl) (by kernel_rfl) (fun _ _ _ h => h) (Or.inl ⟨by rfl, fun w h => by go_simp⟩) (by assumption) ?_
  simp only [Act.put, List.getElem_toArray, List.getElem_cons_succ, List.getElem_cons_zero, List.setIfInBounds_toArray, List.set_cons_succ, List.set_cons_zero]
  refine wpAnyH_take (i := 4) (v := v4) rfl (by kernel_rfl) (by kernel_rfl) (by kernel_rfl) (fun _ _ _ h => h) (Or.inl ⟨by rfl, fun w h => by go_simp⟩) (by assumption) ?_
  simp only [Act.put, List.getElem_toArray, List.getElem_cons_succ, List.getElem_cons_zero, List.setIfInBounds_toArray, List.set_cons_succ, List.set_cons_zero]
  refine wpAnyH_take (i := 5) (v := .string s) rfl (by kernel_rfl) (by kernel_rfl) (by kernel_rfl) (fun _ _ _ h => h) (Or.inl ⟨by rfl, fun w h => by have e := HC4.out w h; clear h; go_simp⟩) (by assumption) ?_
  simp only [Act.put, List.getElem_toArray, List.getElem_cons_succ, List.getElem_cons_zero, List.setIfInBounds_toArray, List.set_cons_succ, List.set_cons_zero]
  refine wpAnyH_take (i := 6) (v := v5) rfl (by kernel_rfl) (by kernel_rfl) (by kernel_rfl) (fun _ _ _ h => h) (Or.inl ⟨by rfl, fun w h => by go_simp⟩) (by assumption) ?_
  simp only [Act.put, List.getElem_toArray, List.getElem_cons_succ, List.getElem_cons_zero, List.setIfInBounds_toArray, List.set_cons_succ, List.set_cons_zero]
  refine wpAnyH_take (i := 7) (v := .string s) rfl (by kernel_rfl) (by kernel_rfl) (by kernel_rfl) (fun _ _ _ h => h) (Or.inl ⟨by rfl, fun w h => by have e := HC5.out w h; clear h; go_simp⟩) (by assumption) ?_
  simp only [Act.put, List.getElem_toArray, List.getElem_cons_succ, List.getElem_cons_zero, List.setIfInBounds_toArray, List.set_cons_succ, List.set_cons_zero]
  refine wpAnyH_take (i := 8) (v := .bool true) rfl (by kernel_rfl) (by kernel_rfl) (by kernel_rfl) (fun _ _ _ h => h) (Or.inl ⟨by rfl, fun w h => by go_simp⟩) (by assumption) ?_
  simp only [Act.put, List.getElem_toArray, List.getElem_cons_succ, List.getElem_cons_zero, List.setIfInBounds_toArray, List.set_cons_succ, List.set_cons_zero]
  refine wpAnyH_take (i := 9) (v := .bool true) rfl (by kernel_rfl) (by kernel_rfl) (by kernel_rfl) (fun _ _ _ h => h) (Or.inl ⟨by rfl, fun w h => by go_simp⟩) (by assumption) ?_
  simp only [Act.put, List.getElem_toArray, List.getElem_cons_succ, List.getElem_cons_zero, List.setIfInBounds_toArray, List.set_cons_succ, List.set_cons_zero]
  refine wpAnyH_take (i := 10) (v := .bool true) rfl (by kernel_rfl) (by kernel_rfl) (by kernel_rfl) (fun _ _ _ h => h) (Or.inl ⟨by rfl, fun w h => by go_simp⟩) (by assumption) ?_
  simp only [Act.put, List.getElem_toArray, List.getElem_cons_succ, List.getElem_cons_zero, List.setIfInBounds_toArray, List.set_cons_succ, List.set_cons_zero]
  refine wpAnyH_take (i := 11) (v := .agg ([.int .u32 ea, .int .u16 eb] : List Value).toArray) rfl (by kernel_rfl) (by kernel_rfl) (by kernel_rfl) (fun _ _ _ h => h) (yieldsIf_load_mid (by rfl) 54 (.tmp 15) rfl g6 0 rfl [.int .u32 ea, .int .u16 eb] _ (fun w h => (HRA.out w h).1) Try.underlying54 rfl HU.out.2.2.1) (by assumption) ?_
  simp only [Act.put, List.getElem_toArray, List.getElem_cons_succ, List.getElem_cons_zero, List.setIfInBounds_toArray, List.set_cons_succ, List.set_cons_zero]
  refine wpAnyH_take (i := 12) (v := .agg ([.int .u32 ea, .int .u16 eb] : List Value).toArray) rfl (by kernel_rfl) (by kernel_rfl) (by kernel_rfl) (fun _ _ _ h => h) (yieldsIf_load_mid (by rfl) 54 (.tmp 17) rfl g7 0 rfl [.int .u32 ea, .int .u16 eb] _ (fun w h => (HRA.out w h).2.1) Try.underlying54 rfl HU.out.2.2.1) (by assumption) ?_
  simp only [Act.put, List.getElem_toArray, List.getElem_cons_succ, List.getElem_cons_zero, List.setIfInBounds_toArray, List.set_cons_succ, List.set_cons_zero]
  refine wpAnyH_take (i := 13) (v := .bool true) rfl (by kernel_rfl) (by kernel_rfl) (by kernel_rfl) (fun _ _ _ h => h) (Or.inl ⟨by rfl, fun w h => by have e := HEQ.out ea eb w; clear h; go_simp⟩) (by assumption) ?_
  simp only [Act.put, List.getElem_toArray, List.getElem_cons_succ, List.getElem_cons_zero, List.setIfInBounds_toArray, List.set_cons_succ, List.set_cons_zero]
  refine wpAnyH_take (i := 14) (v := .bool true) rfl (by kernel_rfl) (by kernel_rfl) (by kernel_rfl) (fun _ _ _ h => h) (Or.inl ⟨by rfl, fun w h => by go_simp⟩) (by assumption) ?_
  simp only [Act.put, List.getElem_toArray, List.getElem_cons_succ, List.getElem_cons_zero, List.setIfInBounds_toArray, List.set_cons_succ, List.set_cons_zero]
  refine wpAnyH_take (i := 15) (v := .bool true) rfl (by kernel_rfl) (by kernel_rfl) (by kernel_rfl) (fun _ _ _ h => h) (Or.inl ⟨by rfl, fun w h => by go_simp⟩) (by assumption) ?_
  simp only [Act.put, List.getElem_toArray, List.getElem_cons_succ, List.getElem_cons_zero, List.setIfInBounds_toArray, List.set_cons_succ, List.set_cons_zero]
  refine wpAnyH_take (i := 16) (v := .int .i64 en) rfl (by kernel_rfl) (by kernel_rfl) (by kernel_rfl) (fun _ _ _ h => h) (Or.inl ⟨by rfl, fun w h => by go_simp⟩) (by assumption) ?_
  simp only [Act.put, List.getElem_toArray, List.getElem_cons_succ, List.getElem_cons_zero, List.setIfInBounds_toArray, List.set_cons_succ, List.set_cons_zero]
  refine wpAnyH_take (i := 17) (v := .int .i64 en) rfl (by kernel_rfl) (by kernel_rfl) (by kernel_rfl) (fun _ _ _ h => h) (Or.inl ⟨by rfl, fun w h => by go_simp⟩) (by assumption) ?_
  simp only [Act.put, List.getElem_toArray, List.getElem_cons_succ, List.getElem_cons_zero, List.setIfInBounds_toArray, List.set_cons_succ, List.set_cons_zero]
  refine wpAnyH_take (i := 18) (v := .bool true) rfl (by kernel_rfl) (by kernel_rfl) (by kernel_rfl) (fun _ _ _ h => h) (Or.inl ⟨by rfl, fun w h => by go_simp⟩) (by assumption) ?_
  simp only [Act.put, List.getElem_toArray, List.getElem_cons_succ, List.getElem_cons_zero, List.setIfInBounds_toArray, List.set_cons_succ, List.set_cons_zero]
  refine wpAnyH_take (i := 19) (v := .bool true) rfl (by kernel_rfl) (by kernel_rfl) (by kernel_rfl) (fun _ _ _ h => h) (Or.inl ⟨by rfl, fun w h => by go_simp⟩) (by assumption) ?_
  simp only [Act.put, List.getElem_toArray, List.getElem_cons_succ, List.getElem_cons_zero, List.setIfInBounds_toArray, List.set_cons_succ, List.set_cons_zero]
  refine wpAnyH_take (i := 20) (v := .bool true) rfl (by kernel_rfl) (by kernel_rfl) (by kernel_rfl) (fun _ _ _ h => h) (Or.inl ⟨by rfl, fun w h => by go_simp⟩) (by assumption) ?_
  simp only [Act.put, List.getElem_toArray, List.getElem_cons_succ, List.getElem_cons_zero, List.setIfInBounds_toArray, List.set_cons_succ, List.set_cons_zero]
  refine wpAnyH_take (i := 21) (v := .agg ([.int .u32 ip, .int .u16 po] : List Value).toArray) rfl (by kernel_rfl) (by kernel_rfl) (by kernel_rfl) (fun _ _ _ h => h) (yieldsIf_load_mid (by rfl) 54 (.tmp 19) rfl g9 0 rfl [.int .u32 ip, .int .u16 po] _ (fun w h => (HRA.out w h).2.2.1) Try.underlying54 rfl HU.out.2.2.1) (by assumption) ?_
  simp only [Act.put, List.getElem_toArray, List.getElem_cons_succ, List.getElem_cons_zero, List.setIfInBounds_toArray, List.set_cons_succ, List.set_cons_zero]
  refine wpAnyH_take (i := 22) (v := .agg ([.int .u32 ip, .int .u16 po] : List Value).toArray) rfl (by kernel_rfl) (by kernel_rfl) (by kernel_rfl) (fun _ _ _ h => h) (yieldsIf_load_mid (by rfl) 54 (.tmp 7) rfl (N + 1) 0 rfl [.int .u32 ip, .int .u16 po] _ (fun w h => (HRA.out w h).2.2.2.1) Try.underlying54 rfl HU.out.2.2.1) (by assumption) ?_
  simp only [Act.put, List.getElem_toArray, List.getElem_cons_succ, List.getElem_cons_zero, List.setIfInBounds_toArray, List.set_cons_succ, List.set_cons_zero]
  refine wpAnyH_take (i := 23) (v := .bool true) rfl (by kernel_rfl) (by kernel_rfl) (by kernel_rfl) (fun _ _ _ h => h) (Or.inl ⟨by rfl, fun w h => by have e := HEQ.out ip po w; clear h; go_simp⟩) (by assumption) ?_
  simp only [Act.put, List.getElem_toArray, List.getElem_cons_succ, List.getElem_cons_zero, List.setIfInBounds_toArray, List.set_cons_succ, List.set_cons_zero]
  refine wpAnyH_take (i := 24) (v := .bool true) rfl (by kernel_rfl) (by kernel_rfl) (by kernel_rfl) (fun _ _ _ h => h) (Or.inl ⟨by rfl, fun w h => by go_simp⟩) (by assumption) ?_
  simp only [Act.put, List.getElem_toArray, List.getElem_cons_succ, List.getElem_cons_zero, List.setIfInBounds_toArray, List.set_cons_succ, List.set_cons_zero]
  refine wpAnyH_take (i := 25) (v := .bool true) rfl (by kernel_rfl) (by kernel_rfl) (by kernel_rfl) (fun _ _ _ h => h) (Or.inl ⟨by rfl, fun w h => by go_simp⟩) (by assumption) ?_
  simp only [Act.put, List.getElem_toArray, List.getElem_cons_succ, List.getElem_cons_zero, List.setIfInBounds_toArray, List.set_cons_succ, List.set_cons_zero]
  refine wpAnyH_take (i := 26) (v := .int .i64 0) rfl (by kernel_rfl) (by kernel_rfl) (by kernel_rfl) (fun _ _ _ h => h) (Or.inl ⟨by rfl, fun w h => by go_simp⟩) (by assumption) ?_
  simp only [Act.put, List.getElem_toArray, List.getElem_cons_succ, List.getElem_cons_zero, List.setIfInBounds_toArray, List.set_cons_succ, List.set_cons_zero]
  refine wpAnyH_take (i := 27) (v := .bool true) rfl (by kernel_rfl) (by kernel_rfl) (by kernel_rfl) (fun _ _ _ h => h) (Or.inl ⟨by rfl, fun w h => by go_simp⟩) (by assumption) ?_
  simp only [Act.put, List.getElem_toArray, List.getElem_cons_succ, List.getElem_cons_zero, List.setIfInBounds_toArray, List.set_cons_succ, List.set_cons_zero]
  refine wpAnyH_take (i := 28) (v := .bool true) rfl (by kernel_rfl) (by kernel_rfl) (by kernel_rfl) (fun _ _ _ h => h) (Or.inl ⟨by rfl, fun w h => by go_simp⟩) (by assumption) ?_
  simp only [Act.put, List.getElem_toArray, List.getElem_cons_succ, List.getElem_cons_zero, List.setIfInBounds_toArray, List.set_cons_succ, List.set_cons_zero]
  refine wpAnyH_take (i := 29) (v := .bool true) rfl (by kernel_rfl) (by kernel_rfl) (by kernel_rfl) (fun _ _ _ h => h) (Or.inl ⟨by rfl, fun w h => by go_simp⟩) (by assumption) ?_
  simp only [Act.put, List.getElem_toArray, List.getElem_cons_succ, List.getElem_cons_zero, List.setIfInBounds_toArray, List.set_cons_succ, List.set_cons_zero]
  refine wpAnyH_take (i := 30) (v := .agg (LA : List Value).toArray) rfl (by kernel_rfl) (by kernel_rfl) (by kernel_rfl) (fun _ _ _ h => h) (yieldsIf_load_mid (by rfl) 54 (.tmp 7) rfl (N + 1) 0 rfl LA _ (fun w h => (HRA.out w h).2.2.2.2.1) Try.underlying54 rfl HU.out.2.2.2.1) (by assumption) ?_
  simp only [Act.put, List.getElem_toArray, List.getElem_cons_succ, List.getElem_cons_zero, List.setIfInBounds_toArray, List.set_cons_succ, List.set_cons_zero]
  refine wpAnyH_take (i := 33) (v := .agg (LA : List Value).toArray) rfl (by kernel_rfl) (by kernel_rfl) (by kernel_rfl) (fun _ _ _ h => h) (yieldsIf_load_mid (by rfl) 54 (.tmp 7) rfl (N + 1) 0 rfl LA _ (fun w h => (HRA.out w h).2.2.2.2.1) Try.underlying54 rfl HU.out.2.2.2.1) (by assumption) ?_
  simp only [Act.put, List.getElem_toArray, List.getElem_cons_succ, List.getElem_cons_zero, List.setIfInBounds_toArray, List.set_cons_succ, List.set_cons_zero]
  refine wpAnyH_ready (rs := [31]) (by kernel_rfl) (by simp) ?_
  refine AllReadyH.cons (i := 31) rfl (fun K hK => ?_) AllReadyH.nil
  go_simp
  refine (HMA.out _).mono ?_
  rintro e wa ⟨va, rfl, ha, hba⟩
  have hSa := HBR.out _ _ hS0 hba
  refine hK.out _ _ (hSa) (fun hHeld => ?_)
  clear hK K
  obtain ⟨sm, hsm⟩ : ∃ s, strOfNums (mapB ip po) = s := ⟨_, rfl⟩
  have hca : ∀ W, Below wa.heap.size wa W → (convert 27 9 va).run Try.prog W = .ok (.string sm) W := fun W hb => by
    obtain ⟨A', c', rfl, -, -, n', bs'⟩ := ha.v8.below hb
    rw [← hsm]
    exact conv_text bs' n'
  have HCA := Lib.hid hca
  have HSA := Lib.hid hSa
  clear hca ha hba hHeld hS0 hSa
  have hSw : Below wa.heap.size wa wa := Below.refl _ wa
  refine wpAnyH_narrow (S' := fun W => Below wa.heap.size wa W) (fun W hb => HBR.out _ _ HSA.out hb) _ _ _ _ ?_
  refine wpAnyH_take (i := 32) (v := .string sm) rfl (by kernel_rfl) (by kernel_rfl) (by kernel_rfl) (fun _ _ _ h => h) (Or.inl ⟨by rfl, fun w h => by have e := HCA.out w h; clear h; go_simp⟩) (by assumption) ?_
  simp only [Act.put, List.getElem_toArray, List.getElem_cons_succ, List.getElem_cons_zero, List.setIfInBounds_toArray, List.set_cons_succ, List.set_cons_zero]
  refine wpAnyH_ready (rs := [34]) (by kernel_rfl) (by simp) ?_
  refine AllReadyH.cons (i := 34) rfl (fun K hK => ?_) AllReadyH.nil
  go_simp
  refine (HMB.out _).mono ?_
  rintro e wb ⟨vb, rfl, hb, hbb⟩
  refine hK.out _ _ (hbb) (fun hHeld => ?_)
  clear hK K
  have hcb : ∀ W, Below wb.heap.size wb W → (convert 27 9 vb).run Try.prog W = .ok (.string sm) W := fun W hbW => by
    obtain ⟨A', c', rfl, -, -, n', bs'⟩ := hb.v8.below hbW
    rw [← hsm]
    exact conv_text bs' n'
  have HCB := Lib.hid hcb
  have HSB := Lib.hid (HBR.out _ _ HSA.out hbb)
  have HBA := Lib.hid hbb
  clear hcb hb hbb hHeld hSw hsm
  have hSw : Below wb.heap.size wb wb := Below.refl _ wb
  refine wpAnyH_narrow (S' := fun W => Below wb.heap.size wb W) (fun W h => HBA.out.trans (h.mono HBA.out.size)) _ _ _ _ ?_
  refine wpAnyH_take (i := 35) (v := .string sm) rfl (by kernel_rfl) (by kernel_rfl) (by kernel_rfl) (fun _ _ _ h => h) (Or.inl ⟨by rfl, fun w h => by have e := HCB.out w h; clear h; go_simp⟩) (by assumption) ?_
  simp only [Act.put, List.getElem_toArray, List.getElem_cons_succ, List.getElem_cons_zero, List.setIfInBounds_toArray, List.set_cons_succ, List.set_cons_zero]
  refine wpAnyH_take (i := 36) (v := .bool true) rfl (by kernel_rfl) (by kernel_rfl) (by kernel_rfl) (fun _ _ _ h => h) (Or.inl ⟨by rfl, fun w h => by go_simp⟩) (by assumption) ?_
  simp only [Act.put, List.getElem_toArray, List.getElem_cons_succ, List.getElem_cons_zero, List.setIfInBounds_toArray, List.set_cons_succ, List.set_cons_zero]
  refine wpAnyH_take (i := 37) (v := .bool true) rfl (by kernel_rfl) (by kernel_rfl) (by kernel_rfl) (fun _ _ _ h => h) (Or.inl ⟨by rfl, fun w h => by go_simp⟩) (by assumption) ?_
  simp only [Act.put, List.getElem_toArray, List.getElem_cons_succ, List.getElem_cons_zero, List.setIfInBounds_toArray, List.set_cons_succ, List.set_cons_zero]
  refine wpAnyH_take (i := 38) (v := .bool true) rfl (by kernel_rfl) (by kernel_rfl) (by kernel_rfl) (fun _ _ _ h => h) (Or.inl ⟨by rfl, fun w h => by go_simp⟩) (by assumption) ?_
  simp only [Act.put, List.getElem_toArray, List.getElem_cons_succ, List.getElem_cons_zero, List.setIfInBounds_toArray, List.set_cons_succ, List.set_cons_zero]
  refine wpAnyH_take (i := 39) (v := .agg (LM : List Value).toArray) rfl (by kernel_rfl) (by kernel_rfl) (by kernel_rfl) (fun _ _ _ h => h) (yieldsIf_load_mid (by rfl) 25 (.tmp 5) rfl N 0 rfl LM _ (fun w h => (HRA.out w (HBR.out _ _ HSB.out h)).2.2.2.2.2) Try.underlying25 rfl HU.out.2.2.2.2) (by assumption) ?_
  simp only [Act.put, List.getElem_toArray, List.getElem_cons_succ, List.getElem_cons_zero, List.setIfInBounds_toArray, List.set_cons_succ, List.set_cons_zero]
  refine wpAnyH_take (i := 41) (v := .int .i64 cd) rfl (by kernel_rfl) (by kernel_rfl) (by kernel_rfl) (fun _ _ _ h => h) (Or.inl ⟨by rfl, fun w h => by go_simp⟩) (by assumption) ?_
  simp only [Act.put, List.getElem_toArray, List.getElem_cons_succ, List.getElem_cons_zero, List.setIfInBounds_toArray, List.set_cons_succ, List.set_cons_zero]
  refine wpAnyH_take (i := 44) (v := .agg (LM : List Value).toArray) rfl (by kernel_rfl) (by kernel_rfl) (by kernel_rfl) (fun _ _ _ h => h) (yieldsIf_load_mid (by rfl) 25 (.tmp 5) rfl N 0 rfl LM _ (fun w h => (HRA.out w (HBR.out _ _ HSB.out h)).2.2.2.2.2) Try.underlying25 rfl HU.out.2.2.2.2) (by assumption) ?_
  simp only [Act.put, List.getElem_toArray, List.getElem_cons_succ, List.getElem_cons_zero, List.setIfInBounds_toArray, List.set_cons_succ, List.set_cons_zero]
  refine wpAnyH_take (i := 45) (v := .int .i64 cd) rfl (by kernel_rfl) (by kernel_rfl) (by kernel_rfl) (fun _ _ _ h => h) (Or.inl ⟨by rfl, fun w h => by go_simp⟩) (by assumption) ?_
  simp only [Act.put, List.getElem_toArray, List.getElem_cons_succ, List.getElem_cons_zero, List.setIfInBounds_toArray, List.set_cons_succ, List.set_cons_zero]
  refine wpAnyH_ready (rs := [40]) (by kernel_rfl) (by simp) ?_
  refine AllReadyH.cons (i := 40) rfl (fun K hK => ?_) AllReadyH.nil
  go_simp
  refine (HTA.out _ HSB.out).mono ?_
  rintro e wc ⟨M6, A6, c6, rfl, hc6⟩
  refine hK.out _ _ (hc6.below) (fun hHeld => ?_)
  clear hK K
  have HC6 := Lib.hid hc6
  clear hc6 hHeld hSw
  refine wpAnyH_ready (rs := [42]) (by kernel_rfl) (by simp) ?_
  refine AllReadyH.cons (i := 42) rfl (fun K hK => ?_) AllReadyH.nil
  go_simp
  refine (failure_any M6 m A6 c6 cd HI.out.2.2 _ HC6.out.msg).mono ?_
  rintro e wd ⟨M7, A7, c7, rfl, hm7, hb7⟩
  have h7 := HC6.out.below.trans (hb7.mono HC6.out.below.size)
  refine hK.out _ _ (h7) (fun hHeld => ?_)
  clear hK K
  have HC7 := Lib.hid (And.intro hm7 h7)
  clear hm7 hb7 h7 hHeld
  refine wpAnyH_ready (rs := [43]) (by kernel_rfl) (by simp) ?_
  refine AllReadyH.cons (i := 43) rfl (fun K hK => ?_) AllReadyH.nil
  go_simp
  refine (ours_any M7 (failP m cd) A7 c7 _ HC7.out.1 (by simp [failP])).mono ?_
  rintro e we ⟨M8, A8, c8, rfl, hc8⟩
  have h8 := HC7.out.2.trans (hc8.below.mono HC7.out.2.size)
  refine hK.out _ _ (h8) (fun hHeld => ?_)
  clear hK K
  have HC8 := Lib.hid (And.intro hc8.msg h8)
  clear hc8 h8 hHeld
  refine wpAnyH_ready (rs := [46]) (by kernel_rfl) (by simp) ?_
  refine AllReadyH.cons (i := 46) rfl (fun K hK => ?_) AllReadyH.nil
  go_simp
  refine (HFA.out _ (HBR.out _ _ HSB.out HC8.out.2)).mono ?_
  rintro e wf ⟨M9, A9, c9, rfl, hm9, hb9⟩
  have h9 := HC8.out.2.trans (hb9.mono HC8.out.2.size)
  refine hK.out _ _ (h9) (fun hHeld => ?_)
  clear hK K
  have HC9 := Lib.hid (And.intro ((HC8.out.1.below hb9).more hb9.size) (And.intro hm9 h9))
  clear hm9 hb9 h9 hHeld
  refine wpAnyH_ready (rs := [47]) (by kernel_rfl) (by simp) ?_
  refine AllReadyH.cons (i := 47) rfl (fun K hK => ?_) AllReadyH.nil
  go_simp
  refine (same_yes M8 M9 (failP m cd) A8 A9 c8 c9 _ HC9.out.1 HC9.out.2.1).mono ?_
  rintro e wg ⟨rfl, hbg⟩
  have hg := HC9.out.2.2.trans (hbg.mono HC9.out.2.2.size)
  refine hK.out _ _ (hg) (fun hHeld => ?_)
  clear hK K
  refine wpAnyH_take (i := 48) (v := .bool true) rfl (by kernel_rfl) (by kernel_rfl) (by kernel_rfl) (fun _ _ _ h => h) (Or.inl ⟨by rfl, fun w h => by go_simp⟩) (by assumption) ?_
  simp only [Act.put, List.getElem_toArray, List.getElem_cons_succ, List.getElem_cons_zero, List.setIfInBounds_toArray, List.set_cons_succ, List.set_cons_zero]
  refine wpAnyH_take (i := 49) (v := .bool true) rfl (by kernel_rfl) (by kernel_rfl) (by kernel_rfl) (fun _ _ _ h => h) (Or.inl ⟨by rfl, fun w h => by go_simp⟩) (by assumption) ?_
  simp only [Act.put, List.getElem_toArray, List.getElem_cons_succ, List.getElem_cons_zero, List.setIfInBounds_toArray, List.set_cons_succ, List.set_cons_zero]
  refine wpAnyH_done (by kernel_rfl) ?_ _
  have HFIN := Lib.hid (HK9.out.1.below.trans ((HBR.out _ _ HSB.out hg).mono HK9.out.1.le))
  clear hHeld hg hbg
  go_wp2
  go_ret
  exact ⟨rfl, by rw [HN.out]; exact HFIN.out⟩
end Go.Proofs.Ytladojbppfmkpaa
