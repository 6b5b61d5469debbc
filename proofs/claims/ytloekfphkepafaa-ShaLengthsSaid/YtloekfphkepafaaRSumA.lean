/- The document's SHA-1 (rostrumref02.Sum): what is known between its parts; rotl. -/
import Derived.Test.YtloekfphkepafaaShaAwake
import Derived.Test.YtloekfphkepafaaBytes
namespace Go.Proofs.Ytloekfphkepafaa
open Go.RowKit
set_option linter.unusedVariables false

set_option maxHeartbeats 400000 in
theorem rotl_1 (x : Int) (w : World) : Calls Try.prog 17 #[.int .u32 x, .int .u64 1] w fun e w' => e = .returned (.int .u32 (rot1 x)) ∧ w = w' := by
  go_enter Try.func17, Try.ntmps17
  go_wp2
  go_ret
  exact ⟨rfl, rfl⟩
set_option maxHeartbeats 400000 in
theorem rotl_5 (x : Int) (w : World) : Calls Try.prog 17 #[.int .u32 x, .int .u64 5] w fun e w' => e = .returned (.int .u32 (rot5 x)) ∧ w = w' := by
  go_enter Try.func17, Try.ntmps17
  go_wp2
  go_ret
  exact ⟨rfl, rfl⟩
set_option maxHeartbeats 400000 in
theorem rotl_30 (x : Int) (w : World) : Calls Try.prog 17 #[.int .u32 x, .int .u64 30] w fun e w' => e = .returned (.int .u32 (rot30 x)) ∧ w = w' := by
  go_enter Try.func17, Try.ntmps17
  go_wp2
  go_ret
  exact ⟨rfl, rfl⟩

/-- The message m so far, in v; the state s; the result's variable. -/
structure RAt (w : World) (s : S5) (m : List Int) (v : Value) (wr : World) : Prop where
  own : Own8 wr w.heap.size v m
  st : Whole wr (w.heap.size + 1) 32 (arr .u32 s.list)
  res : Whole wr w.heap.size 24 (arr .u8 z20)
  below : Below w.heap.size w wr

theorem own8_ne {w : World} {base g : Nat} {v : Value} {xs : List Int} {t : TypeId} {cs : Array Value} (h : Own8 w base v xs) (hg : Whole w g t cs) (ht : 5 ≠ t) : v.ownBlock ≠ some g := by
  intro e
  rcases h.2 with ⟨rfl, _⟩ | ⟨g', cap, cur, rfl, _, h3, _⟩
  · cases e
  · have : g' = g := by simpa [Value.ownBlock] using e
    subst this
    exact Whole.ne (show Whole w g' 5 cur from h3) hg ht rfl

theorem RAt.alloc {w : World} {s : S5} {m : List Int} {v : Value} {wr : World} (h : RAt w s m v wr) (o : Obj) : RAt w s m v (wr.alloc o) :=
  ⟨h.own.alloc o, h.st.alloc o, h.res.alloc o, h.below.alloc h.below.size o⟩
/-- The message has grown. -/
theorem RAt.grown {w : World} {s : S5} {m m' : List Int} {v v' : Value} {wr w' : World} (h : RAt w s m v wr) (ho : Own8 w' w.heap.size v' m') (hg : wr.grownBy w' v.ownBlock) : RAt w s m' v' w' :=
  ⟨ho, h.st.grown hg (Ne.symm (own8_ne h.own h.st (by decide))), h.res.grown hg (Ne.symm (own8_ne h.own h.res (by decide))), h.below.grown hg h.below.size (fun k hk => (h.own.lt hk).1)⟩

theorem byte_at (n i : Nat) (hi : i < 8) : ((n : Int) * 8 / 2 ^ (56 - 8 * i) % 256) = (be8 (n * 8)).getD i 0 := by
  rw [be8_getD _ _ hi]
  have e : 56 - 8 * i = 8 * (7 - i) := by omega
  have h : ((2 : Int) ^ (8 * (7 - i))) = ((256 ^ (7 - i) : Nat) : Int) := by
    rw [Int.pow_mul]
    rfl
  rw [e, h]
  rfl
theorem take_next (l : List Int) (i : Nat) (hi : i < l.length) : l.take (i + 1) = l.take i ++ [l.getD i 0] := by
  rw [List.take_succ_eq_append_getElem hi]
  simp [List.getD, hi]

/-- A word of four bytes. -/
def wd (a b c d : Int) : Int := bits .or .u32 (bits .or .u32 (bits .or .u32 (a * 16777216 % 4294967296) (b * 65536 % 4294967296)) (c * 256 % 4294967296)) d
/-- The words of a block, t of them. -/
def pkR (bs : List Int) : Nat → List Int
  | 0 => z80
  | t + 1 => (pkR bs t).set t (wd (bs.getD (4 * t) 0) (bs.getD (4 * t + 1) 0) (bs.getD (4 * t + 2) 0) (bs.getD (4 * t + 3) 0))
@[simp] theorem pkR_length (bs : List Int) (t : Nat) : (pkR bs t).length = 80 := by
  induction t with
  | zero => rfl
  | succ t ih => simp [pkR, ih]

/-- What a round of the great loop keeps: the message and the state, and the words in block g. -/
structure WAt (w : World) (s : S5) (m : List Int) (v : Value) (g : Nat) (ws : List Int) (wr : World) : Prop where
  base : RAt w s m v wr
  words : Whole wr g 38 (arr .u32 ws)
  far : w.heap.size + 1 < g

theorem WAt.put {w : World} {s : S5} {m : List Int} {v : Value} {g : Nat} {ws : List Int} {wr : World} (h : WAt w s m v g ws wr) (i : Nat) (x : Int) : WAt w s m v g (ws.set i x) (wr.setCell ⟨g, i, none⟩ (.int .u32 x)) := by
  have hne := own8_ne h.base.own h.words (by decide)
  have hf := h.far
  have hg : wr.grownBy (wr.setCell ⟨g, i, none⟩ (.int .u32 x)) (some g) := ⟨rfl, rfl, rfl, by simp [World.setCell], fun k _ hk => Below.heap_setCell wr _ _ k (fun e => hk (by rw [e]))⟩
  exact ⟨⟨h.base.own.grown hg (.inr hne), h.base.st.far (by simp; omega) _, h.base.res.far (by simp; omega) _, h.base.below.setCell (by simp; omega) _⟩, h.words.put i x, hf⟩
theorem WAt.drew {w : World} {s : S5} {m : List Int} {v : Value} {g : Nat} {ws : List Int} {wr : World} (h : WAt w s m v g ws wr) : WAt w s m v g ws wr.drew :=
  ⟨⟨h.base.own, h.base.st, h.base.res, h.base.below.drew⟩, h.words, h.far⟩

/-- The bytes of an own row, cell by cell. -/
theorem own8_cells {w : World} {base : Nat} {v : Value} {xs : List Int} (h : Own8 w base v xs) (hn : 0 < xs.length) : ∃ g c, v = .slice (some ⟨g, 0, none⟩) xs.length c ∧ base ≤ g ∧ g < w.heap.size ∧ ∀ i, i < xs.length → w.cell? ⟨g, i, none⟩ = some (.int .u8 (xs.getD i 0)) := by
  obtain ⟨g, c, rfl, h1, h2, _⟩ := h.at_ hn
  refine ⟨g, c, rfl, h1, h2, fun i hi => ?_⟩
  obtain ⟨g', c', e, _, _, h3, _⟩ := h.at_ hi
  cases e
  exact h3
theorem msg_len (n : Nat) (xs : List Int) (h : xs.length = n) : 0 < (xs ++ padT n (0 + n)).length := by
  rw [List.length_append, padT, List.length_cons]
  omega

theorem Try.info32 : (Try.prog.info? 32).map (·.size) = some 5 := by kernel_rfl

/-- The same, and the state within a block's rounds, in block gs. -/
structure SAt (w : World) (s : S5) (m : List Int) (v : Value) (g : Nat) (ws : List Int) (gs : Nat) (r : S5) (wr : World) : Prop where
  base : WAt w s m v g ws wr
  cur : Whole wr gs 32 (arr .u32 r.list)
  far : g < gs
theorem SAt.drewN {w : World} {s : S5} {m : List Int} {v : Value} {g : Nat} {ws : List Int} {gs : Nat} {r : S5} {wr : World} (h : SAt w s m v g ws gs r wr) (n : Nat) : SAt w s m v g ws gs r (wr.drewN n) :=
  ⟨⟨⟨h.base.base.own, h.base.base.st, h.base.base.res, below_drewN' h.base.base.below n⟩, h.base.words, h.base.far⟩, h.cur, h.far⟩
theorem SAt.drew {w : World} {s : S5} {m : List Int} {v : Value} {g : Nat} {ws : List Int} {gs : Nat} {r : S5} {wr : World} (h : SAt w s m v g ws gs r wr) : SAt w s m v g ws gs r wr.drew :=
  ⟨h.base.drew, h.cur, h.far⟩
theorem SAt.set {w : World} {s : S5} {m : List Int} {v : Value} {g : Nat} {ws : List Int} {gs : Nat} {wr : World} {L : List Int} (hb : WAt w s m v g ws wr) (hc : Whole wr gs 32 (arr .u32 L)) (hf : g < gs) (i : Nat) (x : Int) :
    WAt w s m v g ws (wr.setCell ⟨gs, i, none⟩ (.int .u32 x)) ∧ Whole (wr.setCell ⟨gs, i, none⟩ (.int .u32 x)) gs 32 (arr .u32 (L.set i x)) := by
  have hne := own8_ne hb.base.own hc (by decide)
  have h1 := hb.far
  have hg : wr.grownBy (wr.setCell ⟨gs, i, none⟩ (.int .u32 x)) (some gs) := ⟨rfl, rfl, rfl, by simp [World.setCell], fun k _ hk => Below.heap_setCell wr _ _ k (fun e => hk (by rw [e]))⟩
  exact ⟨⟨⟨hb.base.own.grown hg (.inr hne), hb.base.st.far (by simp; omega) _, hb.base.res.far (by simp; omega) _, hb.base.below.setCell (by simp; omega) _⟩, hb.words.far (by simp; omega) _, hb.far⟩, hc.put i x⟩
theorem SAt.put5 {w : World} {s : S5} {m : List Int} {v : Value} {g : Nat} {ws : List Int} {gs : Nat} {r : S5} {wr : World} (h : SAt w s m v g ws gs r wr) (r' : S5) :
    SAt w s m v g ws gs r' (((((wr.setCell ⟨gs, 0, none⟩ (.int .u32 r'.a)).setCell ⟨gs, 1, none⟩ (.int .u32 r'.b)).setCell ⟨gs, 2, none⟩ (.int .u32 r'.c)).setCell ⟨gs, 3, none⟩ (.int .u32 r'.d)).setCell ⟨gs, 4, none⟩ (.int .u32 r'.e)) := by
  have h0 := SAt.set h.base h.cur h.far 0 r'.a
  have h1 := SAt.set h0.1 h0.2 h.far 1 r'.b
  have h2 := SAt.set h1.1 h1.2 h.far 2 r'.c
  have h3 := SAt.set h2.1 h2.2 h.far 3 r'.d
  have h4 := SAt.set h3.1 h3.2 h.far 4 r'.e
  exact ⟨h4.1, h4.2, h.far⟩
theorem SAt.new {w : World} {s : S5} {m : List Int} {v : Value} {g : Nat} {ws : List Int} {wr : World} (h : WAt w s m v g ws wr) (cs : Array Value) : SAt w s m v g ws wr.heap.size s ((wr.alloc (.cells cs 32)).setRow wr.heap.size (arr .u32 s.list)) := by
  have hb : Below wr.heap.size wr ((wr.alloc (.cells cs 32)).setRow wr.heap.size (arr .u32 s.list)) := below_row ((Below.refl _ wr).alloc (Nat.le_refl _) _) (Nat.le_refl _) _
  exact ⟨⟨⟨h.base.own.under hb, h.base.st.under hb, h.base.res.under hb, h.base.below.trans (hb.mono h.base.below.size)⟩, h.words.under hb, h.far⟩, Whole.row (Whole.new _ _ _) _, h.words.lt⟩

theorem mix_hi (k : Nat) (x y z : Int) (h : 60 ≤ k) : mixF k x y z = bits .xor .u32 (bits .xor .u32 x y) z ∧ mixK k = 3395469782 := by
  unfold mixF mixK
  rw [if_neg (by omega), if_neg (by omega), if_neg (by omega), if_neg (by omega), if_neg (by omega), if_neg (by omega)]
  exact ⟨rfl, rfl⟩
theorem mix_40 (k : Nat) (x y z : Int) (h : 40 ≤ k) (h2 : k < 60) : mixF k x y z = bits .or .u32 (bits .or .u32 (bits .and .u32 x y) (bits .and .u32 x z)) (bits .and .u32 y z) ∧ mixK k = 2400959708 := by
  unfold mixF mixK
  rw [if_neg (by omega), if_neg (by omega), if_pos (by omega), if_neg (by omega), if_neg (by omega), if_pos (by omega)]
  exact ⟨rfl, rfl⟩
theorem mix_20 (k : Nat) (x y z : Int) (h : 20 ≤ k) (h2 : k < 40) : mixF k x y z = bits .xor .u32 (bits .xor .u32 x y) z ∧ mixK k = 1859775393 := by
  unfold mixF mixK
  rw [if_neg (by omega), if_pos (by omega), if_neg (by omega), if_pos (by omega)]
  exact ⟨rfl, rfl⟩
theorem mix_0 (k : Nat) (x y z : Int) (h2 : k < 20) : mixF k x y z = bits .or .u32 (bits .and .u32 x y) (bits .and .u32 (bits .xor .u32 IntKind.u32.max x) z) ∧ mixK k = 1518500249 := by
  unfold mixF mixK
  rw [if_pos (by omega), if_pos (by omega)]
  exact ⟨rfl, rfl⟩

end Go.Proofs.Ytloekfphkepafaa
