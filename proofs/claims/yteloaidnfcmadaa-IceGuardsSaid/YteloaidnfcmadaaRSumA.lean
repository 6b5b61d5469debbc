/- The document's SHA-1 (rostrumref02.Sum): what is known between its parts; rotl. -/
import Derived.Test.YteloaidnfcmadaaShaAll
import Derived.Lib.SmallJoins
import Derived.Test.YteloaidnfcmadaaBase
namespace Go.Proofs.Yteloaidnfcmadaa
open Go.RowKit
set_option linter.unusedVariables false

set_option maxHeartbeats 400000 in
theorem rotl_1 (x : Int) (w : World) : Calls Try.prog 72 #[.int .u32 x, .int .u64 1] w fun e w' => e = .returned (.int .u32 (rot1 x)) ∧ w = w' := by
  go_enter Try.func72, Try.ntmps72
  go_wp2
  go_ret
  exact ⟨rfl, rfl⟩
set_option maxHeartbeats 400000 in
theorem rotl_5 (x : Int) (w : World) : Calls Try.prog 72 #[.int .u32 x, .int .u64 5] w fun e w' => e = .returned (.int .u32 (rot5 x)) ∧ w = w' := by
  go_enter Try.func72, Try.ntmps72
  go_wp2
  go_ret
  exact ⟨rfl, rfl⟩
set_option maxHeartbeats 400000 in
theorem rotl_30 (x : Int) (w : World) : Calls Try.prog 72 #[.int .u32 x, .int .u64 30] w fun e w' => e = .returned (.int .u32 (rot30 x)) ∧ w = w' := by
  go_enter Try.func72, Try.ntmps72
  go_wp2
  go_ret
  exact ⟨rfl, rfl⟩

/-- The message m so far, in v; the state s; the result's variable. -/
structure RAt (w : World) (s : S5) (m : List Int) (v : Value) (wr : World) : Prop where
  own : Own8 wr w.heap.size v m
  st : Whole wr (w.heap.size + 1) 124 (arr .u32 s.list)
  res : Whole wr w.heap.size 81 (arr .u8 z20)
  below : Below w.heap.size w wr

theorem own8_neR {w : World} {base g : Nat} {v : Value} {xs : List Int} {t : TypeId} {cs : Array Value} (h : Own8 w base v xs) (hg : Whole w g t cs) (ht : 5 ≠ t) : v.ownBlock ≠ some g := by
  intro e
  rcases h.2 with ⟨rfl, _⟩ | ⟨g', cap, cur, rfl, _, h3, _⟩
  · cases e
  · have : g' = g := by simpa [Value.ownBlock] using e
    subst this
    exact Whole.ne (show Whole w g' 5 cur from h3) hg ht rfl

theorem RAt.alloc {w : World} {s : S5} {m : List Int} {v : Value} {wr : World} (h : RAt w s m v wr) (o : Obj) : RAt w s m v (wr.alloc o) :=
  ⟨h.own.alloc o, h.st.alloc o, h.res.alloc o, h.below.alloc h.below.size o⟩
/-- The message has grown. -/
theorem RAt.grown {w : World} {s : S5} {m m' : List Int} {v v' : Value} {wr w' : World} (h : RAt w s m v wr) (ho : Own8 w' w.heap.size v' m') (hg : wr.grownBy w' v.ownBlock) : RAt w s m' v' w' :=
  ⟨ho, h.st.grown hg (Ne.symm (own8_neR h.own h.st (by decide))), h.res.grown hg (Ne.symm (own8_neR h.own h.res (by decide))), h.below.grown hg h.below.size (fun k hk => (h.own.lt hk).1)⟩

theorem byte_at (n i : Nat) (hi : i < 8) : ((n : Int) * 8 / 2 ^ (56 - 8 * i) % 256) = (be8 (n * 8)).getD i 0 := by
  rw [be8_getD _ _ hi]
  have e : 56 - 8 * i = 8 * (7 - i) := by omega
  have h : ((2 : Int) ^ (8 * (7 - i))) = ((256 ^ (7 - i) : Nat) : Int) := by
    rw [Int.pow_mul]
    rfl
  rw [e, h]
  rfl
theorem take_next (l : List Int) (i : Nat) (hi : i < l.length) : l.take (i + 1) = l.take i ++ [l.getD i 0] := by
  rw [List.take_succ_eq_append_getElem hi]
  simp [List.getD, hi]

/-- A word of four bytes. -/
def wd (a b c d : Int) : Int := bits .or .u32 (bits .or .u32 (bits .or .u32 (a * 16777216 % 4294967296) (b * 65536 % 4294967296)) (c * 256 % 4294967296)) d
/-- The words of a block, t of them. -/
def pkR (bs : List Int) : Nat → List Int
  | 0 => z80
  | t + 1 => (pkR bs t).set t (wd (bs.getD (4 * t) 0) (bs.getD (4 * t + 1) 0) (bs.getD (4 * t + 2) 0) (bs.getD (4 * t + 3) 0))
@[simp] theorem pkR_length (bs : List Int) (t : Nat) : (pkR bs t).length = 80 := by
  induction t with
  | zero => rfl
  | succ t ih => simp [pkR, ih]

/-- What a round of the great loop keeps: the message and the state, and the words in block g. -/
structure WAt (w : World) (s : S5) (m : List Int) (v : Value) (g : Nat) (ws : List Int) (wr : World) : Prop where
  base : RAt w s m v wr
  words : Whole wr g 126 (arr .u32 ws)
  far : w.heap.size + 1 < g

theorem WAt.put {w : World} {s : S5} {m : List Int} {v : Value} {g : Nat} {ws : List Int} {wr : World} (h : WAt w s m v g ws wr) (i : Nat) (x : Int) : WAt w s m v g (ws.set i x) (wr.setCell ⟨g, i, none⟩ (.int .u32 x)) := by
  have hne := own8_neR h.base.own h.words (by decide)
  have hf := h.far
  have hg : wr.grownBy (wr.setCell ⟨g, i, none⟩ (.int .u32 x)) (some g) := ⟨rfl, rfl, rfl, by simp [World.setCell], fun k _ hk => Below.heap_setCell wr _ _ k (fun e => hk (by rw [e]))⟩
  exact ⟨⟨h.base.own.grown hg (.inr hne), h.base.st.far (by simp; omega) _, h.base.res.far (by simp; omega) _, h.base.below.setCell (by simp; omega) _⟩, h.words.put i x, hf⟩
theorem WAt.drew {w : World} {s : S5} {m : List Int} {v : Value} {g : Nat} {ws : List Int} {wr : World} (h : WAt w s m v g ws wr) : WAt w s m v g ws wr.drew :=
  ⟨⟨h.base.own, h.base.st, h.base.res, h.base.below.drew⟩, h.words, h.far⟩

/-- The bytes of an own row, cell by cell. -/
theorem own8_cells {w : World} {base : Nat} {v : Value} {xs : List Int} (h : Own8 w base v xs) (hn : 0 < xs.length) : ∃ g c, v = .slice (some ⟨g, 0, none⟩) xs.length c ∧ base ≤ g ∧ g < w.heap.size ∧ ∀ i, i < xs.length → w.cell? ⟨g, i, none⟩ = some (.int .u8 (xs.getD i 0)) := by
  obtain ⟨g, c, rfl, h1, h2, _⟩ := h.at_ hn
  refine ⟨g, c, rfl, h1, h2, fun i hi => ?_⟩
  obtain ⟨g', c', e, _, _, h3, _⟩ := h.at_ hi
  cases e
  exact h3
theorem msg_len (n : Nat) (xs : List Int) (h : xs.length = n) : 0 < (xs ++ padT n (0 + n)).length := by
  rw [List.length_append, padT, List.length_cons]
  omega

theorem Try.info124 : (Try.prog.info? 124).map (·.size) = some 5 := by kernel_rfl

/-- The same, and the state within a block's rounds, in block gs. -/
structure SAt (w : World) (s : S5) (m : List Int) (v : Value) (g : Nat) (ws : List Int) (gs : Nat) (r : S5) (wr : World) : Prop where
  base : WAt w s m v g ws wr
  cur : Whole wr gs 124 (arr .u32 r.list)
  far : g < gs
theorem SAt.drewN {w : World} {s : S5} {m : List Int} {v : Value} {g : Nat} {ws : List Int} {gs : Nat} {r : S5} {wr : World} (h : SAt w s m v g ws gs r wr) (n : Nat) : SAt w s m v g ws gs r (wr.drewN n) :=
  ⟨⟨⟨h.base.base.own, h.base.base.st, h.base.base.res, below_drewN' h.base.base.below n⟩, h.base.words, h.base.far⟩, h.cur, h.far⟩
theorem SAt.drew {w : World} {s : S5} {m : List Int} {v : Value} {g : Nat} {ws : List Int} {gs : Nat} {r : S5} {wr : World} (h : SAt w s m v g ws gs r wr) : SAt w s m v g ws gs r wr.drew :=
  ⟨h.base.drew, h.cur, h.far⟩
theorem SAt.set {w : World} {s : S5} {m : List Int} {v : Value} {g : Nat} {ws : List Int} {gs : Nat} {wr : World} {L : List Int} (hb : WAt w s m v g ws wr) (hc : Whole wr gs 124 (arr .u32 L)) (hf : g < gs) (i : Nat) (x : Int) :
    WAt w s m v g ws (wr.setCell ⟨gs, i, none⟩ (.int .u32 x)) ∧ Whole (wr.setCell ⟨gs, i, none⟩ (.int .u32 x)) gs 124 (arr .u32 (L.set i x)) := by
  have hne := own8_neR hb.base.own hc (by decide)
  have h1 := hb.far
  have hg : wr.grownBy (wr.setCell ⟨gs, i, none⟩ (.int .u32 x)) (some gs) := ⟨rfl, rfl, rfl, by simp [World.setCell], fun k _ hk => Below.heap_setCell wr _ _ k (fun e => hk (by rw [e]))⟩
  exact ⟨⟨⟨hb.base.own.grown hg (.inr hne), hb.base.st.far (by simp; omega) _, hb.base.res.far (by simp; omega) _, hb.base.below.setCell (by simp; omega) _⟩, hb.words.far (by simp; omega) _, hb.far⟩, hc.put i x⟩
theorem SAt.put5 {w : World} {s : S5} {m : List Int} {v : Value} {g : Nat} {ws : List Int} {gs : Nat} {r : S5} {wr : World} (h : SAt w s m v g ws gs r wr) (r' : S5) :
    SAt w s m v g ws gs r' (((((wr.setCell ⟨gs, 0, none⟩ (.int .u32 r'.a)).setCell ⟨gs, 1, none⟩ (.int .u32 r'.b)).setCell ⟨gs, 2, none⟩ (.int .u32 r'.c)).setCell ⟨gs, 3, none⟩ (.int .u32 r'.d)).setCell ⟨gs, 4, none⟩ (.int .u32 r'.e)) := by
  have h0 := SAt.set h.base h.cur h.far 0 r'.a
  have h1 := SAt.set h0.1 h0.2 h.far 1 r'.b
  have h2 := SAt.set h1.1 h1.2 h.far 2 r'.c
  have h3 := SAt.set h2.1 h2.2 h.far 3 r'.d
  have h4 := SAt.set h3.1 h3.2 h.far 4 r'.e
  exact ⟨h4.1, h4.2, h.far⟩
theorem SAt.new {w : World} {s : S5} {m : List Int} {v : Value} {g : Nat} {ws : List Int} {wr : World} (h : WAt w s m v g ws wr) (cs : Array Value) : SAt w s m v g ws wr.heap.size s ((wr.alloc (.cells cs 124)).setRow wr.heap.size (arr .u32 s.list)) := by
  have hb : Below wr.heap.size wr ((wr.alloc (.cells cs 124)).setRow wr.heap.size (arr .u32 s.list)) := below_row ((Below.refl _ wr).alloc (Nat.le_refl _) _) (Nat.le_refl _) _
  exact ⟨⟨⟨h.base.own.under hb, h.base.st.under hb, h.base.res.under hb, h.base.below.trans (hb.mono h.base.below.size)⟩, h.words.under hb, h.far⟩, Whole.row (Whole.new _ _ _) _, h.words.lt⟩

theorem mix_hi (k : Nat) (x y z : Int) (h : 60 ≤ k) : mixF k x y z = bits .xor .u32 (bits .xor .u32 x y) z ∧ mixK k = 3395469782 := by
  unfold mixF mixK
  rw [if_neg (by omega), if_neg (by omega), if_neg (by omega), if_neg (by omega), if_neg (by omega), if_neg (by omega)]
  exact ⟨rfl, rfl⟩
theorem mix_40 (k : Nat) (x y z : Int) (h : 40 ≤ k) (h2 : k < 60) : mixF k x y z = bits .or .u32 (bits .or .u32 (bits .and .u32 x y) (bits .and .u32 x z)) (bits .and .u32 y z) ∧ mixK k = 2400959708 := by
  unfold mixF mixK
  rw [if_neg (by omega), if_neg (by omega), if_pos (by omega), if_neg (by omega), if_neg (by omega), if_pos (by omega)]
  exact ⟨rfl, rfl⟩
theorem mix_20 (k : Nat) (x y z : Int) (h : 20 ≤ k) (h2 : k < 40) : mixF k x y z = bits .xor .u32 (bits .xor .u32 x y) z ∧ mixK k = 1859775393 := by
  unfold mixF mixK
  rw [if_neg (by omega), if_pos (by omega), if_neg (by omega), if_pos (by omega)]
  exact ⟨rfl, rfl⟩
theorem mix_0 (k : Nat) (x y z : Int) (h2 : k < 20) : mixF k x y z = bits .or .u32 (bits .and .u32 x y) (bits .and .u32 (bits .xor .u32 IntKind.u32.max x) z) ∧ mixK k = 1518500249 := by
  unfold mixF mixK
  rw [if_pos (by omega), if_pos (by omega)]
  exact ⟨rfl, rfl⟩

end Go.Proofs.Yteloaidnfcmadaa

namespace Go.Proofs.Yteloaidnfcmadaa
open Go.RowKit
set_option linter.unusedVariables false

theorem or_addN (x b k : Nat) (hb : b < 2 ^ k) : x * 2 ^ k ||| b = x * 2 ^ k + b := by
  have h := Nat.shiftLeft_add_eq_or_of_lt hb x
  rw [Nat.shiftLeft_eq] at h
  exact h.symm
theorem or32 (x b k : Nat) (hb : b < 2 ^ k) (hx : x * 2 ^ k + b < 4294967296) : bits .or .u32 ((x * 2 ^ k : Nat) : Int) (b : Int) = ((x * 2 ^ k + b : Nat) : Int) := by
  rw [u32_or_nat _ _ (by omega) (by omega), or_addN x b k hb]
theorem or8 (x b : Nat) (hb : b < 256) (hx : x < 16777216) : bits .or .u32 ((x : Int) * 256 % 4294967296) (b : Int) = ((x * 256 + b : Nat) : Int) := by
  have e : ((x : Int) * 256 % 4294967296) = ((x * 2 ^ 8 : Nat) : Int) := by
    show _ = ((x * 256 : Nat) : Int)
    omega
  rw [e, or32 x b 8 hb (by show x * 256 + b < _; omega)]
theorem p24 : (2 : Nat) ^ 24 = 16777216 := by decide
theorem p16 : (2 : Nat) ^ 16 = 65536 := by decide
theorem p8 : (2 : Nat) ^ 8 = 256 := by decide
theorem num24 (a b : Nat) : a * 2 ^ 24 + b * 65536 = (a * 256 + b) * 256 * 2 ^ 8 := by
  rw [p24, p8]
  omega
theorem num16 (x c : Nat) : x * 2 ^ 16 + c * 256 = (x * 256 + c) * 2 ^ 8 := by
  rw [p16, p8]
  omega
theorem wd_nat (a b c d : Nat) (ha : a < 256) (hb : b < 256) (hc : c < 256) (hd : d < 256) : wd a b c d = ((((a * 256 + b) * 256 + c) * 256 + d : Nat) : Int) := by
  unfold wd
  have e1 : ((a : Int) * 16777216 % 4294967296) = ((a * 256 * 2 ^ 16 : Nat) : Int) := by
    show _ = ((a * 256 * 65536 : Nat) : Int)
    omega
  have e2 : ((b : Int) * 65536 % 4294967296) = ((b * 65536 : Nat) : Int) := by omega
  have e3 : ((c : Int) * 256 % 4294967296) = ((c * 256 : Nat) : Int) := by omega
  have h1 : bits .or .u32 ((a * 256 * 2 ^ 16 : Nat) : Int) ((b * 65536 : Nat) : Int) = (((a * 256 + b) * 256 * 2 ^ 8 : Nat) : Int) := by
    have q : a * 256 * 2 ^ 16 = a * 2 ^ 24 := by show a * 256 * 65536 = a * 16777216; omega
    rw [q, or32 a (b * 65536) 24 (by show b * 65536 < 16777216; omega) (by show a * 16777216 + b * 65536 < _; omega)]
    rw [num24 a b]
  have h2 : bits .or .u32 (((a * 256 + b) * 256 * 2 ^ 8 : Nat) : Int) ((c * 256 : Nat) : Int) = ((((a * 256 + b) * 256 + c) * 2 ^ 8 : Nat) : Int) := by
    have q : (a * 256 + b) * 256 * 2 ^ 8 = (a * 256 + b) * 2 ^ 16 := by show (a * 256 + b) * 256 * 256 = (a * 256 + b) * 65536; omega
    rw [q, or32 (a * 256 + b) (c * 256) 16 (by show c * 256 < 65536; omega) (by show (a * 256 + b) * 65536 + c * 256 < _; omega)]
    rw [num16 (a * 256 + b) c]
  rw [e1, e2, e3, h1, h2, or32 _ d 8 hd (by show ((a * 256 + b) * 256 + c) * 256 + d < _; omega)]
theorem pack4 (a b c d : Nat) (ha : a < 256) (hb : b < 256) (hc : c < 256) (hd : d < 256) :
    bits .or .u32 (bits .or .u32 (bits .or .u32 (bits .or .u32 (0 * 256 % 4294967296) (a : Int) * 256 % 4294967296) (b : Int) * 256 % 4294967296) (c : Int) * 256 % 4294967296) (d : Int) = wd a b c d := by
  have h0 := or8 0 a ha (by omega)
  simp only [Int.natCast_zero, Nat.zero_mul, Nat.zero_add] at h0
  rw [wd_nat a b c d ha hb hc hd]
  have e : ((0 : Nat) : Int) = 0 := rfl
  rw [show (bits BinOp.or .u32 (0 * 256 % 4294967296) (a : Int)) = (a : Int) from h0, or8 a b hb (by omega), or8 _ c hc (by omega), or8 _ d hd (by omega)]

theorem pkR_later (bs : List Int) (t i : Nat) (h : t ≤ i) : (pkR bs t).getD i 0 = 0 := by
  induction t with
  | zero => rw [pkR, z80, getD_zeros]
  | succ t ih => rw [pkR, getD_set, if_neg (by omega), ih (by omega)]
theorem set_set (xs : List Int) (i : Nat) (x y : Int) : (xs.set i x).set i y = xs.set i y := by simp
theorem pkR_pk (bs : List Int) (h : ∀ i, 0 ≤ bs.getD i 0 ∧ bs.getD i 0 < 256) (t : Nat) (ht : t ≤ 16) : pk bs (4 * t) = pkR bs t := by
  induction t with
  | zero => rfl
  | succ t ih =>
    have hl : t < (pkR bs t).length := by rw [pkR_length]; omega
    have g : ∀ (x : Int), ((pkR bs t).set t x).getD t 0 = x := fun x => by rw [getD_set, if_pos ⟨rfl, hl⟩]
    have b0 := h (4 * t)
    have b1 := h (4 * t + 1)
    have b2 := h (4 * t + 2)
    have b3 := h (4 * t + 3)
    have hp := pack4 (bs.getD (4 * t) 0).toNat (bs.getD (4 * t + 1) 0).toNat (bs.getD (4 * t + 2) 0).toNat (bs.getD (4 * t + 3) 0).toNat (by omega) (by omega) (by omega) (by omega)
    rw [Int.toNat_of_nonneg b0.1, Int.toNat_of_nonneg b1.1, Int.toNat_of_nonneg b2.1, Int.toNat_of_nonneg b3.1] at hp
    show pk bs (4 * t + 1 + 1 + 1 + 1) = _
    rw [pk, pk, pk, pk, ih (by omega)]
    have d0 : 4 * t / 4 = t := by omega
    have d1 : (4 * t + 1) / 4 = t := by omega
    have d2 : (4 * t + 1 + 1) / 4 = t := by omega
    have d3 : (4 * t + 1 + 1 + 1) / 4 = t := by omega
    rw [d0, d1, d2, d3, pkR_later bs t t (Nat.le_refl _)]
    simp only [g, set_set]
    rw [pkR, show 4 * t + 1 + 1 = 4 * t + 2 from rfl, show 4 * t + 2 + 1 = 4 * t + 3 from rfl, hp]

/-- The state, i of its words added. -/
def addN (s r : S5) : Nat → List Int
  | 0 => s.list
  | i + 1 => (addN s r i).set i (((addN s r i).getD i 0 + r.list.getD i 0) % 4294967296)
@[simp] theorem addN_length (s r : S5) (i : Nat) : (addN s r i).length = 5 := by
  induction i with
  | zero => rfl
  | succ i ih => simp [addN, ih]
theorem addN_all (s r : S5) : addN s r 5 = (s.add r).list := by
  simp [addN, S5.list, S5.add]

/-- The digest's bytes, one by one. -/
def digR (s : S5) : Nat → List Int
  | 0 => z20
  | i + 1 => (digR s i).set i (s.list.getD (i / 4) 0 / 2 ^ (24 - 8 * (i % 4)) % 256)
@[simp] theorem digR_length (s : S5) (i : Nat) : (digR s i).length = 20 := by
  induction i with
  | zero => rfl
  | succ i ih => simp [digR, ih]
theorem digR_all (s : S5) : digR s 20 = dig s := by
  simp [digR, dig, digN, z20, List.replicate, S5.list]

/-- While the state is added to. -/
structure HAt (w : World) (m : List Int) (v : Value) (gs : Nat) (L : List Int) (r : S5) (wr : World) : Prop where
  own : Own8 wr w.heap.size v m
  st : Whole wr (w.heap.size + 1) 124 (arr .u32 L)
  res : Whole wr w.heap.size 81 (arr .u8 z20)
  below : Below w.heap.size w wr
  cur : Whole wr gs 124 (arr .u32 r.list)
  far : w.heap.size + 1 < gs
theorem HAt.put {w : World} {m : List Int} {v : Value} {gs : Nat} {L : List Int} {r : S5} {wr : World} (h : HAt w m v gs L r wr) (i : Nat) (x : Int) : HAt w m v gs (L.set i x) r (wr.setCell ⟨w.heap.size + 1, i, none⟩ (.int .u32 x)) := by
  have hne := own8_neR h.own h.st (by decide)
  have hf := h.far
  have hg : wr.grownBy (wr.setCell ⟨w.heap.size + 1, i, none⟩ (.int .u32 x)) (some (w.heap.size + 1)) := ⟨rfl, rfl, rfl, by simp [World.setCell], fun k _ hk => Below.heap_setCell wr _ _ k (fun e => hk (by rw [e]))⟩
  exact ⟨h.own.grown hg (.inr hne), h.st.put i x, h.res.far (by simp) _, h.below.setCell (by simp) _, h.cur.far (by simp; omega) _, hf⟩
theorem HAt.drew {w : World} {m : List Int} {v : Value} {gs : Nat} {L : List Int} {r : S5} {wr : World} (h : HAt w m v gs L r wr) : HAt w m v gs L r wr.drew :=
  ⟨h.own, h.st, h.res, h.below.drew, h.cur, h.far⟩

theorem RAt.farSet {w : World} {s : S5} {m : List Int} {v : Value} {wr : World} {g : Nat} {cs : Array Value} (h : RAt w s m v wr) (hg : Whole wr g 81 cs) (hf : w.heap.size + 1 < g) (i : Nat) (x : Int) : RAt w s m v (wr.setCell ⟨g, i, none⟩ (.int .u8 x)) := by
  have hne := own8_neR h.own hg (by decide)
  have hgr : wr.grownBy (wr.setCell ⟨g, i, none⟩ (.int .u8 x)) (some g) := ⟨rfl, rfl, rfl, by simp [World.setCell], fun k _ hk => Below.heap_setCell wr _ _ k (fun e => hk (by rw [e]))⟩
  exact ⟨h.own.grown hgr (.inr hne), h.st.far (by simp; omega) _, h.res.far (by simp; omega) _, h.below.setCell (by simp; omega) _⟩

end Go.Proofs.Yteloaidnfcmadaa
