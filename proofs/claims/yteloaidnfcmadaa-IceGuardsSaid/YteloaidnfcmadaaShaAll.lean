/- SHA-1, HMAC and CRC-32 as plain functions on lists of numbers, in the model's own operations. -/
import Derived.Laws.BitsAllLaws
import Derived.RowKit
import Derived.Test.YteloaidnfcmadaaBase
import Derived.Deep.RegionHeld3
import Derived.Deep.MidRow
namespace Go.Proofs.Yteloaidnfcmadaa

def z80 : List Int := List.replicate 80 0
@[simp] theorem zlen80 : z80.length = 80 := rfl
def z64 : List Int := List.replicate 64 0
def z20 : List Int := List.replicate 20 0
def z5 : List Int := List.replicate 5 0

def rot1 (x : Int) : Int := bits .or .u32 (x * 2 % 4294967296) (x / 2147483648)
def rot5 (x : Int) : Int := bits .or .u32 (x * 32 % 4294967296) (x / 134217728)
def rot30 (x : Int) : Int := bits .or .u32 (x * 1073741824 % 4294967296) (x / 4)

/-- f and K of place t. -/
def mixF (t : Nat) (x y z : Int) : Int :=
  if t < 20 then bits .or .u32 (bits .and .u32 x y) (bits .and .u32 (bits .xor .u32 IntKind.u32.max x) z)
  else if t < 40 then bits .xor .u32 (bits .xor .u32 x y) z
  else if t < 60 then bits .or .u32 (bits .or .u32 (bits .and .u32 x y) (bits .and .u32 x z)) (bits .and .u32 y z)
  else bits .xor .u32 (bits .xor .u32 x y) z
def mixK (t : Nat) : Int := if t < 20 then 1518500249 else if t < 40 then 1859775393 else if t < 60 then 2400959708 else 3395469782

/-- The words behind k bytes of a block. -/
def pk (xs : List Int) : Nat → List Int
  | 0 => z80
  | k + 1 => (pk xs k).set (k / 4) (bits .or .u32 ((pk xs k).getD (k / 4) 0 * 256 % 4294967296) (xs.getD k 0))
@[simp] theorem pk_length (xs : List Int) (k : Nat) : (pk xs k).length = 80 := by
  induction k with
  | zero => rfl
  | succ k ih => simp [pk, ih]

/-- The words, behind n of those that come of the first 16. -/
def sched (ws : List Int) : Nat → List Int
  | 0 => ws
  | n + 1 => (sched ws n).set (n + 16) (rot1 (bits .xor .u32 (bits .xor .u32 (bits .xor .u32 ((sched ws n).getD (n + 13) 0) ((sched ws n).getD (n + 8) 0)) ((sched ws n).getD (n + 2) 0)) ((sched ws n).getD n 0)))
@[simp] theorem sched_length (ws : List Int) (n : Nat) : (sched ws n).length = ws.length := by
  induction n with
  | zero => rfl
  | succ k ih => simp [sched, ih]

/-- The state of SHA-1. -/
structure S5 where
  a : Int
  b : Int
  c : Int
  d : Int
  e : Int

/-- The state behind t places of a block. -/
def rnd (ws : List Int) (s : S5) : Nat → S5
  | 0 => s
  | t + 1 =>
    let r := rnd ws s t
    ⟨(rot5 r.a + mixF t r.b r.c r.d + r.e + mixK t + ws.getD t 0) % 4294967296, r.a, rot30 r.b, r.c, r.d⟩

def S5.add (s r : S5) : S5 := ⟨(s.a + r.a) % 4294967296, (s.b + r.b) % 4294967296, (s.c + r.c) % 4294967296, (s.d + r.d) % 4294967296, (s.e + r.e) % 4294967296⟩
def S5.list (s : S5) : List Int := [s.a, s.b, s.c, s.d, s.e]

/-- The state behind one block more: by its 80 words. -/
def blkW (s : S5) (ws : List Int) : S5 := s.add (rnd ws s 80)

/-- The state behind one block more: by its bytes, the first 64 of bs. -/
def blk (s : S5) (bs : List Int) : S5 := blkW s (sched (pk bs 64) 64)
/-- The state behind the first n blocks of bs. -/
def blks (s : S5) (bs : List Int) : Nat → S5
  | 0 => s
  | n + 1 => blk (blks s bs n) (bs.drop (64 * n))

def s0 : S5 := ⟨1732584193, 4023233417, 2562383102, 271733878, 3285377520⟩

/-- The bytes of a state, as they are written one word after the other. -/
def digN (s : S5) : Nat → List Int
  | 0 => z20
  | k + 1 => ((((digN s k).set (4 * k) (s.list.getD k 0 / 16777216 % 256)).set (4 * k + 1) (s.list.getD k 0 / 65536 % 256)).set (4 * k + 2) (s.list.getD k 0 / 256 % 256)).set (4 * k + 3) (s.list.getD k 0 % 256)
@[simp] theorem digN_length (s : S5) (k : Nat) : (digN s k).length = 20 := by
  induction k with
  | zero => rfl
  | succ k ih => simp [digN, ih]
def dig (s : S5) : List Int := digN s 5

/-- The 8 bytes of a number. -/
def be8 (n : Nat) : List Int := [((n / 256 ^ 7 % 256 : Nat) : Int), ((n / 256 ^ 6 % 256 : Nat) : Int), ((n / 256 ^ 5 % 256 : Nat) : Int), ((n / 256 ^ 4 % 256 : Nat) : Int), ((n / 256 ^ 3 % 256 : Nat) : Int), ((n / 256 ^ 2 % 256 : Nat) : Int), ((n / 256 % 256 : Nat) : Int), ((n % 256 : Nat) : Int)]

/-- What stands behind a message of n bytes, of which its number of bytes is total. -/
def padT (n total : Nat) : List Int := 128 :: (List.replicate ((119 - n % 64) % 64) 0 ++ be8 (total * 8))

/-- The digest of what is left of a message: xs, behind ahead bytes, which made the state s. -/
def shaFrom (s : S5) (ahead : Nat) (xs : List Int) : List Int :=
  dig (blks s (xs ++ padT xs.length (ahead + xs.length)) ((xs.length + 9 + (119 - xs.length % 64) % 64) / 64))
def sha (xs : List Int) : List Int := shaFrom s0 0 xs

/-- The last blocks, behind j bytes of the number's 8, the last one first. -/
def tlN (room : Nat) (xs : List Int) (n : Nat) : Nat → List Int
  | 0 => (xs ++ List.replicate (room - xs.length) 0).set xs.length 128
  | j + 1 => (tlN room xs n j).set (room - 1 - j) ((n / 256 ^ j % 256 : Nat) : Int)
theorem tlN_length (room : Nat) (xs : List Int) (n j : Nat) (h : xs.length ≤ room) : (tlN room xs n j).length = room := by
  induction j with
  | zero => simp [tlN]; omega
  | succ j ih => simp [tlN, ih]

/-- The first block of a sum of HMAC: the key, noughts behind it, and the mask in each byte. -/
def keyB (ks : List Int) (mask : Int) : Nat → List Int
  | 0 => ks ++ List.replicate (64 - ks.length) 0
  | i + 1 => (keyB ks mask i).set i (bits .xor .u8 ((keyB ks mask i).getD i 0) mask)
theorem keyB_length (ks : List Int) (mask : Int) (i : Nat) (h : ks.length ≤ 64) : (keyB ks mask i).length = 64 := by
  induction i with
  | zero => simp [keyB]; omega
  | succ i ih => simp [keyB, ih]
def keyS (ks : List Int) (mask : Int) : S5 := blk s0 (keyB ks mask 64)
def macOf (ks msg : List Int) : List Int := shaFrom (keyS ks 92) 64 (shaFrom (keyS ks 54) 64 msg)
def mac (key msg : List Int) : List Int := if 64 < key.length then macOf (sha key) msg else macOf key msg

end Go.Proofs.Yteloaidnfcmadaa

namespace Go.Proofs.Yteloaidnfcmadaa
open Go.RowKit
set_option linter.unusedVariables false

theorem Try.zero126 (w : World) : (zeroValue 126).run Try.prog w = .ok (.agg (arr .u32 z80)) w := by kernel_rfl

theorem Try.info126 : (Try.prog.info? 126).map (·.size) = some 80 := by kernel_rfl

set_option maxHeartbeats 400000 in
theorem rot32_1 (x : Int) (w : World) : Calls Try.prog 88 #[.int .u32 x, .int .i64 1] w fun e w' => e = .returned (.int .u32 (rot1 x)) ∧ w = w' := by
  have h5 : bits .and .u64 1 31 = 1 := by decide
  go_enter Try.func88, Try.ntmps88
  go_wp2
  go_ret
  exact ⟨rfl, rfl⟩
set_option maxHeartbeats 400000 in
theorem rot32_5 (x : Int) (w : World) : Calls Try.prog 88 #[.int .u32 x, .int .i64 5] w fun e w' => e = .returned (.int .u32 (rot5 x)) ∧ w = w' := by
  have h5 : bits .and .u64 5 31 = 5 := by decide
  go_enter Try.func88, Try.ntmps88
  go_wp2
  go_ret
  exact ⟨rfl, rfl⟩
set_option maxHeartbeats 400000 in
theorem rot32_30 (x : Int) (w : World) : Calls Try.prog 88 #[.int .u32 x, .int .i64 30] w fun e w' => e = .returned (.int .u32 (rot30 x)) ∧ w = w' := by
  have h5 : bits .and .u64 30 31 = 30 := by decide
  go_enter Try.func88, Try.ntmps88
  go_wp2
  go_ret
  exact ⟨rfl, rfl⟩

theorem same_flip {f : FuncId} {args : Array Value} {w : World} {v : Value} (h : Calls Try.prog f args w fun e w' => e = .returned v ∧ w = w') : Calls Try.prog f args w fun e w' => e = .returned v ∧ w' = w :=
  h.mono fun _ _ ⟨h1, h2⟩ => ⟨h1, h2.symm⟩

set_option maxHeartbeats 3200000 in
set_option maxRecDepth 100000 in
theorem words_any (a : Addr) (c : Nat) (xs : List Int) (w : World) (hx : ∀ i, 0 ≤ xs.getD i 0 ∧ xs.getD i 0 < 256) (hc : ∀ i, i < 64 → w.cell? (a.add i) = some (.int .u8 (xs.getD i 0))) (ha : a.block < w.heap.size) : Calls Try.prog 86 #[.slice (some a) 64 c] w fun e w' => e = .returned (.agg (arr .u32 (sched (pk xs 64) 64))) ∧ Below w.heap.size w w' := by
  have hz := Try.zero126
  have HC := Lib.hid hc
  have HX := Lib.hid hx
  clear hc hx
  go_enter Try.func86, Try.ntmps86
  go_wp2
  have h1 : Whole ((w.alloc (Obj.cells (arr .u32 z80) 126)).alloc (Obj.cells (arr .u32 z80) 126)) w.heap.size 126 (arr .u32 z80) := (Whole.new _ _ _).alloc _
  have h2 : Whole ((w.alloc (Obj.cells (arr .u32 z80) 126)).alloc (Obj.cells (arr .u32 z80) 126)) (w.heap.size + 1) 126 (arr .u32 (pk xs 0)) := by
    have := Whole.new (w.alloc (Obj.cells (arr .u32 z80) 126)) 126 (arr .u32 z80)
    rw [World.size_alloc] at this
    exact this
  have hb0 : Below w.heap.size w ((w.alloc (Obj.cells (arr .u32 z80) 126)).alloc (Obj.cells (arr .u32 z80) 126)) := ((Below.refl _ w).alloc (Nat.le_refl _) _).alloc (by simp) _
  have HS := Lib.hid (And.intro h1 (And.intro h2 hb0))
  clear h1 h2 hb0
  go_loopw [9] (fun s9 wr => ∃ k : Nat, k ≤ 64 ∧ s9 = .int .i64 k ∧ Whole wr w.heap.size 126 (arr .u32 z80) ∧ Whole wr (w.heap.size + 1) 126 (arr .u32 (pk xs k)) ∧ Below w.heap.size w wr) (fun s9 _ => 64 - (intOf s9).toNat)
  case atStart => exact ⟨0, by omega, rfl, HS.out⟩
  case round =>
    clear HS
    obtain ⟨k, hk, rfl, h1, h2, hb⟩ := hrel
    by_cases hlt : k < 64
    · have hcell : wr.cell? (a.add k) = some (.int .u8 (xs.getD k 0)) := (hb.cell (p := a.add k) (by rw [Addr.add]; split <;> exact ha)).trans (HC.out k hlt)
      have hw := h2.at_ (i := k / 4) (by simp; omega)
      have hf := h2.frz (k / 4)
      have hk1 := Whole.set h2 (k / 4) (.int .u32 (bits .or .u32 ((pk xs k).getD (k / 4) 0 * 256 % 4294967296) (xs.getD k 0)))
      rw [arr_set] at hk1
      obtain ⟨hx0, hx1⟩ := HX.out k
      obtain ⟨x, hxe⟩ : ∃ x, xs.getD k 0 = x := ⟨_, rfl⟩
      obtain ⟨y, hye⟩ : ∃ y, (pk xs k).getD (k / 4) 0 = y := ⟨_, rfl⟩
      rw [hxe] at hcell hx0 hx1
      rw [hye] at hw
      have H := Lib.hid (And.intro h1 (And.intro hk1 (And.intro hb (And.intro hxe hye))))
      clear h1 h2 hb hk1 hxe hye
      go_wp2
      go_roundw
      case rel =>
        obtain ⟨g1, g2, g3, rfl, rfl⟩ := H.out
        refine ⟨k + 1, by omega, by go_num, g1.far (by simp) _, ?_, g3.setCell (by simp) _⟩
        exact g2
      case measure => simp [intOf]; omega
    · obtain rfl : k = 64 := by omega
      rw [show ((64 : Nat) : Int) = 64 from rfl]
      have H := Lib.hid (And.intro h1 (And.intro h2 hb))
      clear h1 h2 hb
      go_wp2
      go_loopw [6] (fun s6 wr => ∃ k : Nat, k ≤ 64 ∧ s6 = .int .i64 ((k + 16 : Nat) : Int) ∧ Whole wr w.heap.size 126 (arr .u32 z80) ∧ Whole wr (w.heap.size + 1) 126 (arr .u32 (sched (pk xs 64) k)) ∧ Below w.heap.size w wr) (fun s6 _ => 80 - (intOf s6).toNat)
      case atStart => exact ⟨0, by omega, rfl, H.out⟩
      case round =>
        clear H hlt hk
        obtain ⟨k, hk, rfl, h1, h2, hb⟩ := hrel
        by_cases hlt : k < 64
        · have e1 := h2.at_ (i := k + 13) (by simp; omega)
          have e2 := h2.at_ (i := k + 8) (by simp; omega)
          have e3 := h2.at_ (i := k + 2) (by simp; omega)
          have e4 := h2.at_ (i := k) (by simp; omega)
          have hw := h2.at_ (i := k + 16) (by simp; omega)
          have hf := h2.frz (k + 16)
          obtain ⟨y1, hy1⟩ : ∃ y, (sched (pk xs 64) k).getD (k + 13) 0 = y := ⟨_, rfl⟩
          obtain ⟨y2, hy2⟩ : ∃ y, (sched (pk xs 64) k).getD (k + 8) 0 = y := ⟨_, rfl⟩
          obtain ⟨y3, hy3⟩ : ∃ y, (sched (pk xs 64) k).getD (k + 2) 0 = y := ⟨_, rfl⟩
          obtain ⟨y4, hy4⟩ : ∃ y, (sched (pk xs 64) k).getD k 0 = y := ⟨_, rfl⟩
          obtain ⟨y5, hy5⟩ : ∃ y, (sched (pk xs 64) k).getD (k + 16) 0 = y := ⟨_, rfl⟩
          rw [hy1] at e1
          rw [hy2] at e2
          rw [hy3] at e3
          rw [hy4] at e4
          rw [hy5] at hw
          obtain ⟨t, ht⟩ : ∃ t, k + 16 = t := ⟨_, rfl⟩
          obtain ⟨j1, hj1⟩ : ∃ j, k + 13 = j := ⟨_, rfl⟩
          obtain ⟨j2, hj2⟩ : ∃ j, k + 8 = j := ⟨_, rfl⟩
          obtain ⟨j3, hj3⟩ : ∃ j, k + 2 = j := ⟨_, rfl⟩
          have s1 : IntKind.i64.wrap ((t : Int) - 3) = (j1 : Int) := by rw [IntWalk.i64_in _ (by omega)]; omega
          have s2 : IntKind.i64.wrap ((t : Int) - 8) = (j2 : Int) := by rw [IntWalk.i64_in _ (by omega)]; omega
          have s3 : IntKind.i64.wrap ((t : Int) - 14) = (j3 : Int) := by rw [IntWalk.i64_in _ (by omega)]; omega
          have s4 : IntKind.i64.wrap ((t : Int) - 16) = (k : Int) := by rw [IntWalk.i64_in _ (by omega)]; omega
          have b0 : (t : Int) < 80 := by omega
          have b1 : (j1 : Int) < 80 := by omega
          have b2 : (j2 : Int) < 80 := by omega
          have b3 : (j3 : Int) < 80 := by omega
          have b4 : (k : Int) < 80 := by omega
          have H := Lib.hid (And.intro h1.drew (And.intro h2.drew (And.intro hb.drew (And.intro hy1 (And.intro hy2 (And.intro hy3 (And.intro hy4 hy5)))))))
          have HT := Lib.hid (And.intro ht (And.intro hj1 (And.intro hj2 hj3)))
          rw [hj1] at e1
          rw [hj2] at e2
          rw [hj3] at e3
          rw [ht] at hw hf ⊢
          have hl3 : k < 64 := hlt
          clear h1 h2 hb hy1 hy2 hy3 hy4 hy5 ht hj1 hj2 hj3
          go_upto_region 10 with fail
          refine wp_region_still_tail 21 (by kernel_rfl) (by kernel_rfl) ?_
          simp only [List.take_succ_cons, List.take_zero, List.drop_succ_cons, List.drop_zero]
          repeat still_step
          still_call (same_flip (rot32_1 _ _))
          refine wpStill_nil ?_
          clear s1 s2 s3 s4
          change wpList _ _ _ _ _ wr.drew
          go_wp2
          go_roundw
          case rel =>
            obtain ⟨g1, g2, g3, rfl, rfl, rfl, rfl, rfl⟩ := H.out
            obtain ⟨rfl, rfl, rfl, rfl⟩ := HT.out
            refine ⟨k + 1, by omega, by go_num, Whole.far g1 (by simp) _, ?_, Below.setCell g3 (by simp) _⟩
            have := Whole.set g2 (k + 16) (.int .u32 (rot1 (bits .xor .u32 (bits .xor .u32 (bits .xor .u32 ((sched (pk xs 64) k).getD (k + 13) 0) ((sched (pk xs 64) k).getD (k + 8) 0)) ((sched (pk xs 64) k).getD (k + 2) 0)) ((sched (pk xs 64) k).getD k 0))))
            rw [arr_set] at this
            exact this
          case measure => have := HT.out.1; simp [intOf]; omega
        · obtain rfl : k = 64 := by omega
          rw [show ((64 + 16 : Nat) : Int) = 80 from rfl]
          have H := Lib.hid (And.intro h1 (And.intro h2 hb))
          clear h1 h2 hb
          go_wp2_with (first
            | (refine wpList_load_whole rfl 126 (.tmp 3) rfl rfl H.out.2.1 Try.underlying126 Try.info126 (by simp) ?_)
            | (refine wpList_store_whole rfl 126 (.tmp 2) (.tmp 52) rfl rfl rfl H.out.1 Try.info126 (by simp) (by simp) (arr_one _ _) ?_))
          exact bodyPost_ret (v := .agg (arr .u32 (sched (pk xs 64) 64))) (ret_whole (g := w.heap.size) rfl rfl (Whole.row H.out.1 _) Try.underlying126 Try.info126 (by simp)) rfl ⟨rfl, below_row H.out.2.2 (Nat.le_refl _) _⟩
end Go.Proofs.Yteloaidnfcmadaa

namespace Go.Proofs.Yteloaidnfcmadaa
open Go.RowKit
set_option linter.unusedVariables false

set_option maxHeartbeats 400000 in
theorem mixed_any (t : Nat) (x y z : Int) (w : World) : Calls Try.prog 87 #[.int .i64 t, .int .u32 x, .int .u32 y, .int .u32 z] w fun e w' => e = .returned (.tuple #[.int .u32 (mixF t x y z), .int .u32 (mixK t)]) ∧ w = w' := by
  obtain ⟨f, hf⟩ : ∃ f, mixF t x y z = f := ⟨_, rfl⟩
  obtain ⟨k, hk⟩ : ∃ k, mixK t = k := ⟨_, rfl⟩
  have H := Lib.hid (And.intro hf hk)
  rw [hf, hk]
  clear hf hk
  go_enter Try.func87, Try.ntmps87
  go_wp2
  all_goals go_ret2
  all_goals
    obtain ⟨rfl, rfl⟩ := H.out
    refine ⟨?_, rfl⟩
    unfold mixF mixK
  · rw [if_pos (by omega), if_pos (by omega)]; rfl
  · rw [if_neg (by omega), if_pos (by omega), if_neg (by omega), if_pos (by omega)]; rfl
  · rw [if_neg (by omega), if_neg (by omega), if_pos (by omega), if_neg (by omega), if_neg (by omega), if_pos (by omega)]; rfl
  · rw [if_neg (by omega), if_neg (by omega), if_neg (by omega), if_neg (by omega), if_neg (by omega), if_neg (by omega)]; rfl

theorem Try.info131 : (Try.prog.info? 131).map (·.size) = some 5 := by kernel_rfl
theorem Try.size30 (w : World) : (sizeOf 30).run Try.prog w = .ok 1 w := by kernel_rfl

set_option maxHeartbeats 3200000 in
set_option maxRecDepth 100000 in
theorem behind_any (s : S5) (a : Addr) (c : Nat) (xs : List Int) (w : World) (hx : ∀ i, 0 ≤ xs.getD i 0 ∧ xs.getD i 0 < 256) (hc : ∀ i, i < 64 → w.cell? (a.add i) = some (.int .u8 (xs.getD i 0))) (ha : a.block < w.heap.size) :
    Calls Try.prog 83 #[.agg #[.int .u32 s.a, .int .u32 s.b, .int .u32 s.c, .int .u32 s.d, .int .u32 s.e], .slice (some a) 64 c] w fun e w' => e = .returned (.agg (arr .u32 (blkW s (sched (pk xs 64) 64)).list)) ∧ Below w.heap.size w w' := by
  have HC : Hid (∀ W, Below w.heap.size w W → Calls Try.prog 86 #[.slice (some a) 64 c] W fun e w' => e = .returned (.agg (arr .u32 (sched (pk xs 64) 64))) ∧ Below W.heap.size W w') :=
    Lib.hid fun W hb => words_any a c xs W hx (fun i hi => (hb.cell (p := a.add i) (by rw [Addr.add]; split <;> exact ha)).trans (hc i hi)) (Nat.lt_of_lt_of_le ha hb.size)
  obtain ⟨L, hL⟩ : ∃ L, sched (pk xs 64) 64 = L := ⟨_, rfl⟩
  have hLl : L.length = 80 := by rw [← hL]; simp
  obtain ⟨a0, b0, c0, d0, e0⟩ := s
  rw [hL] at HC ⊢
  dsimp only
  have HI : Hid (∀ (w : World) (i : Nat), i < 80 → (Instr.index 126 (.agg (arr .u32 L)) (.int .i64 i)).run Try.prog w = .ok (.int .u32 (L.getD i 0)) w) :=
    Lib.hid fun w i hi => run_index_arr Try.underlying126 Try.underlying30 Try.size30 w .u32 L i (by omega) hLl.symm
  clear hc hx hL hLl
  go_enter Try.func83, Try.ntmps83
  go_wp2
  go_quiet (fail)
  go_wp2_with fail
  have hb0 := below_drewN' (two_new (w := w) 131 131 #[Value.int IntKind.u32 a0, Value.int IntKind.u32 b0, Value.int IntKind.u32 c0, Value.int IntKind.u32 d0, Value.int IntKind.u32 e0] #[Value.int IntKind.u32 0, Value.int IntKind.u32 0, Value.int IntKind.u32 0, Value.int IntKind.u32 0, Value.int IntKind.u32 0]) nq
  refine (HC.out _ hb0).mono ?_
  rintro e w1 ⟨rfl, hb1⟩
  have h1 : Whole w1 w.heap.size 131 #[Value.int IntKind.u32 a0, Value.int IntKind.u32 b0, Value.int IntKind.u32 c0, Value.int IntKind.u32 d0, Value.int IntKind.u32 e0] := (((Whole.new w _ _).alloc _).drewN nq).under hb1
  have h2 : Whole w1 (w.heap.size + 1) 131 #[Value.int IntKind.u32 0, Value.int IntKind.u32 0, Value.int IntKind.u32 0, Value.int IntKind.u32 0, Value.int IntKind.u32 0] := ((Whole.new2 w _ _ _).drewN nq).under hb1
  have hb2 : Below w.heap.size w w1 := hb0.trans (hb1.mono hb0.size)
  have HS := Lib.hid (And.intro h1 (And.intro h2 hb2))
  clear h1 h2 hb2 hb0 hb1
  go_wp2_with fail
  go_loop [5, 6, 7, 8, 9, 26] (fun s5 s6 s7 s8 s9 s26 => ∃ k : Nat, k ≤ 80 ∧ s26 = .int .i64 k ∧ ∃ r, r = rnd L ⟨a0, b0, c0, d0, e0⟩ k ∧ s5 = .int .u32 r.a ∧ s6 = .int .u32 r.b ∧ s7 = .int .u32 r.c ∧ s8 = .int .u32 r.d ∧ s9 = .int .u32 r.e) (fun _ _ _ _ _ s26 => 80 - (intOf s26).toNat)
  case atStart => exact ⟨0, by omega, rfl, _, rfl, rfl, rfl, rfl, rfl, rfl⟩
  case round =>
    obtain ⟨k, hk, rfl, r, hr, rfl, rfl, rfl, rfl, rfl⟩ := hrel
    obtain ⟨a1, b1, c1, d1, e1⟩ := r
    dsimp only
    have HR := Lib.hid hr
    clear hr
    by_cases hlt : k < 80
    · have hi := fun w => HI.out w k hlt
      obtain ⟨x, hx⟩ : ∃ x, L.getD k 0 = x := ⟨_, rfl⟩
      rw [hx] at hi
      have HX := Lib.hid hx
      clear hx
      go_wp2_with (first
        | (go_at_call 87; (with_reducible refine (mixed_any _ _ _ _ _).mono ?_); rintro e w' ⟨rfl, rfl⟩)
        | (go_at_call 88; (with_reducible refine (rot32_5 _ _).mono ?_); rintro e w' ⟨rfl, rfl⟩)
        | (go_at_call 88; (with_reducible refine (rot32_30 _ _).mono ?_); rintro e w' ⟨rfl, rfl⟩))
      go_round
      case rel => exact ⟨k + 1, by omega, by go_num, _, rfl, by rw [rnd, ← HR.out, ← HX.out], by rw [rnd, ← HR.out], by rw [rnd, ← HR.out], by rw [rnd, ← HR.out], by rw [rnd, ← HR.out]⟩
      case measure => simp [intOf]; omega
    · obtain rfl : k = 80 := by omega
      rw [show ((80 : Nat) : Int) = 80 from rfl]
      have c0' := HS.out.1.cell 0
      have c1' := HS.out.1.cell 1
      have c2' := HS.out.1.cell 2
      have c3' := HS.out.1.cell 3
      have c4' := HS.out.1.cell 4
      simp at c0' c1' c2' c3' c4'
      have hfin : arr .u32 (blkW ⟨a0, b0, c0, d0, e0⟩ L).list = #[.int .u32 ((a0 + a1) % 4294967296), .int .u32 ((b0 + b1) % 4294967296), .int .u32 ((c0 + c1) % 4294967296), .int .u32 ((d0 + d1) % 4294967296), .int .u32 ((e0 + e1) % 4294967296)] := by
        rw [blkW, ← HR.out]
        rfl
      have HF := Lib.hid hfin
      clear hfin
      have hs1 := HS.out.2.1
      have q0 := hs1.cell 0
      have q1 := hs1.cell 1
      have q2 := hs1.cell 2
      have q3 := hs1.cell 3
      have q4 := hs1.cell 4
      have f0 := hs1.frz 0
      have f1 := hs1.frz 1
      have f2 := hs1.frz 2
      have f3 := hs1.frz 3
      have f4 := hs1.frz 4
      simp at q0 q1 q2 q3 q4
      clear hs1
      go_wp2_with fail
      refine bodyPost_ret (v := .agg (arr .u32 (blkW ⟨a0, b0, c0, d0, e0⟩ L).list)) ?_ rfl ?_
      · rw [HF.out]
        have h := Whole.set (Whole.set (Whole.set (Whole.set (Whole.set HS.out.2.1 0 (.int .u32 ((a0 + a1) % 4294967296))) 1 (.int .u32 ((b0 + b1) % 4294967296))) 2 (.int .u32 ((c0 + c1) % 4294967296))) 3 (.int .u32 ((d0 + d1) % 4294967296))) 4 (.int .u32 ((e0 + e1) % 4294967296))
        exact ret_whole (g := w.heap.size + 1) rfl rfl h Try.underlying131 Try.info131 rfl
      · exact ⟨rfl, ((((HS.out.2.2.setCell (by simp) _).setCell (by simp) _).setCell (by simp) _).setCell (by simp) _).setCell (by simp) _⟩

end Go.Proofs.Yteloaidnfcmadaa

namespace Go.Proofs.Yteloaidnfcmadaa
open Go.RowKit
set_option linter.unusedVariables false

theorem Try.zero81 (w : World) : (zeroValue 81).run Try.prog w = .ok (.agg (arr .u8 z20)) w := by kernel_rfl
theorem Try.info81 : (Try.prog.info? 81).map (·.size) = some 20 := by kernel_rfl

set_option maxHeartbeats 400000 in
theorem begin_any (w : World) : Calls Try.prog 82 #[] w fun e w' => e = .returned (.agg (arr .u32 s0.list)) ∧ Below w.heap.size w w' := by
  go_enter Try.func82, Try.ntmps82
  go_wp2
  refine bodyPost_ret (v := .agg (arr .u32 s0.list)) ?_ rfl ?_
  · exact ret_whole (g := w.heap.size) rfl rfl (Whole.new w _ _) Try.underlying131 Try.info131 rfl
  · exact ⟨rfl, (Below.refl _ w).alloc (Nat.le_refl _) _⟩

set_option maxHeartbeats 3200000 in
set_option maxRecDepth 100000 in
theorem sbytes_any (s : S5) (w : World) : Calls Try.prog 85 #[.agg (arr .u32 s.list)] w fun e w' => e = .returned (.agg (arr .u8 (dig s))) ∧ Below w.heap.size w w' := by
  have hz := Try.zero81
  have HI : Hid (∀ (w : World) (i : Nat), i < 5 → (Instr.index 131 (.agg (arr .u32 s.list)) (.int .i64 i)).run Try.prog w = .ok (.int .u32 (s.list.getD i 0)) w) :=
    Lib.hid fun w i hi => run_index_arr Try.underlying131 Try.underlying30 Try.size30 w .u32 s.list i hi rfl
  have hs : s.list.length = 5 := rfl
  obtain ⟨L, hL⟩ : ∃ L, s.list = L := ⟨_, rfl⟩
  rw [hL] at HI hs ⊢
  have HS := Lib.hid (And.intro hL hs)
  clear hs hL
  go_enter Try.func85, Try.ntmps85
  go_upto_region 2 with fail
  have h1 : Whole (((w.alloc (.cells (arr .u32 L) 131)).alloc (.cells (arr .u8 z20) 81)).alloc (.cells (arr .u8 z20) 81)) w.heap.size 131 (arr .u32 L) := ((Whole.new _ _ _).alloc _).alloc _
  have h2 : Whole (((w.alloc (.cells (arr .u32 L) 131)).alloc (.cells (arr .u8 z20) 81)).alloc (.cells (arr .u8 z20) 81)) (w.heap.size + 1) 81 (arr .u8 z20) := (Whole.new2 _ _ _ _).alloc _
  have h3 : Whole (((w.alloc (.cells (arr .u32 L) 131)).alloc (.cells (arr .u8 z20) 81)).alloc (.cells (arr .u8 z20) 81)) (w.heap.size + 2) 81 (arr .u8 (digN s 0)) := by
    have := Whole.new ((w.alloc (.cells (arr .u32 L) 131)).alloc (.cells (arr .u8 z20) 81)) 81 (arr .u8 z20)
    rw [World.size_alloc, World.size_alloc] at this
    exact this
  have hb : Below w.heap.size w (((w.alloc (.cells (arr .u32 L) 131)).alloc (.cells (arr .u8 z20) 81)).alloc (.cells (arr .u8 z20) 81)) := (two_new _ _ _ _).alloc (by simp; omega) _
  have H := Lib.hid (And.intro h1 (And.intro h2 (And.intro h3 hb)))
  clear h1 h2 h3 hb
  go_wp2_with (refine wpList_load_whole rfl 131 (.tmp 1) rfl rfl H.out.1 Try.underlying131 Try.info131 (by rw [arr_size]; exact HS.out.2) ?_)
  go_loopw [7] (fun s7 wr => ∃ k : Nat, k ≤ 5 ∧ s7 = .int .i64 k ∧ Whole wr (w.heap.size + 1) 81 (arr .u8 z20) ∧ Whole wr (w.heap.size + 2) 81 (arr .u8 (digN s k)) ∧ Below w.heap.size w wr) (fun s7 _ => 5 - (intOf s7).toNat)
  case atStart => exact ⟨0, by omega, rfl, H.out.2.1, H.out.2.2.1, H.out.2.2.2⟩
  case round =>
    clear H
    obtain ⟨k, hk, rfl, h2, h3, hb⟩ := hrel
    by_cases hlt : k < 5
    · have hi := fun w => HI.out w k hlt
      obtain ⟨x, hx⟩ : ∃ x, L.getD k 0 = x := ⟨_, rfl⟩
      rw [hx] at hi
      have q0 := h3.at_ (i := 4 * k) (by simp; omega)
      have q1 := h3.at_ (i := 4 * k + 1) (by simp; omega)
      have q2 := h3.at_ (i := 4 * k + 2) (by simp; omega)
      have q3 := h3.at_ (i := 4 * k + 3) (by simp; omega)
      obtain ⟨y0, hy0⟩ : ∃ y, (digN s k).getD (4 * k) 0 = y := ⟨_, rfl⟩
      obtain ⟨y1, hy1⟩ : ∃ y, (digN s k).getD (4 * k + 1) 0 = y := ⟨_, rfl⟩
      obtain ⟨y2, hy2⟩ : ∃ y, (digN s k).getD (4 * k + 2) 0 = y := ⟨_, rfl⟩
      obtain ⟨y3, hy3⟩ : ∃ y, (digN s k).getD (4 * k + 3) 0 = y := ⟨_, rfl⟩
      rw [hy0] at q0
      rw [hy1] at q1
      rw [hy2] at q2
      rw [hy3] at q3
      have f0 := h3.frz (4 * k)
      have f1 := h3.frz (4 * k + 1)
      have f2 := h3.frz (4 * k + 2)
      have f3 := h3.frz (4 * k + 3)
      have H := Lib.hid (And.intro h2 (And.intro h3 (And.intro hb hx)))
      clear h2 h3 hb hx hy0 hy1 hy2 hy3
      go_wp2
      go_roundw
      case rel =>
        obtain ⟨g2, g3, gb, rfl⟩ := H.out
        refine ⟨k + 1, by omega, by go_num, (((Whole.far g2 (by simp) _).far (by simp) _).far (by simp) _).far (by simp) _, ?_, (((Below.setCell gb (by simp; omega) _).setCell (by simp; omega) _).setCell (by simp; omega) _).setCell (by simp; omega) _⟩
        rw [digN, HS.out.1]
        exact (((g3.put _ _).put _ _).put _ _).put _ _
      case measure => simp [intOf]; omega
    · obtain rfl : k = 5 := by omega
      rw [show ((5 : Nat) : Int) = 5 from rfl]
      have H := Lib.hid (And.intro h2 (And.intro h3 hb))
      clear h2 h3 hb
      go_wp2_with (first
        | (refine wpList_load_whole rfl 81 (.tmp 3) rfl rfl H.out.2.1 Try.underlying81 Try.info81 (by simp) ?_)
        | (refine wpList_store_whole rfl 81 (.tmp 2) (.tmp 38) rfl rfl rfl H.out.1 Try.info81 (by simp) (by rfl) (arr_one _ _) ?_))
      refine bodyPost_ret (v := .agg (arr .u8 (digN s 5))) ?_ rfl ?_
      · exact ret_whole (g := w.heap.size + 1) rfl rfl (Whole.row H.out.1 _) Try.underlying81 Try.info81 (by simp)
      · exact ⟨rfl, below_row H.out.2.2 (by omega) _⟩

theorem behind_arr (s : S5) (a : Addr) (c : Nat) (xs : List Int) (w : World) (hx : ∀ i, 0 ≤ xs.getD i 0 ∧ xs.getD i 0 < 256) (hc : ∀ i, i < 64 → w.cell? (a.add i) = some (.int .u8 (xs.getD i 0))) (ha : a.block < w.heap.size) :
    Calls Try.prog 83 #[.agg (arr .u32 s.list), .slice (some a) 64 c] w fun e w' => e = .returned (.agg (arr .u32 (blk s xs).list)) ∧ Below w.heap.size w w' :=
  behind_any s a c xs w hx hc ha

end Go.Proofs.Yteloaidnfcmadaa

namespace Go.Proofs.Yteloaidnfcmadaa
open Go.RowKit
set_option linter.unusedVariables false

theorem tail_cell {w : World} {g n room : Nat} {xs : List Int} (h : Whole w g 5 (arr .u8 (xs ++ List.replicate (room - n) 0))) (hx : xs.length = n) (hn : n < 64) (hr : 64 ≤ room) : ∃ y, w.cell? ⟨g, n, none⟩ = some (.int .u8 y) :=
  ⟨_, h.at_ (i := n) (by simp; omega)⟩

theorem tail_start {w : World} {g n room T : Nat} {xs : List Int} (h : Whole w g 5 (arr .u8 (xs ++ List.replicate (room - n) 0))) (hx : xs.length = n) (hr : n < room) :
    Whole (w.setCell ⟨g, n, none⟩ (.int .u8 128)) g 5 (arr .u8 (tlN room xs (T * 8) 0)) := by
  have := h.put n 128
  rw [tlN, hx]
  exact this

set_option maxHeartbeats 3200000 in
set_option maxRecDepth 100000 in
theorem tail_walk (A : Option Addr) (n cap T room : Nat) (xs : List Int) (B : Nat) (w : World) (h : Bs w B A n xs) (hB : B ≤ w.heap.size) (hroom : (room = 64 ∧ n + 9 ≤ 64) ∨ (room = 128 ∧ 64 < n + 9 ∧ n < 64)) (hT : T ≤ 1125899906842624) :
    Calls Try.prog 84 #[.slice A n cap, .int .u64 T] w fun e w' => e = .returned (.slice (some ⟨w.heap.size, 0, none⟩) room room) ∧ (∃ j, j ≤ 8 ∧ T * 8 / 256 ^ j = 0 ∧ Whole w' w.heap.size 5 (arr .u8 (tlN room xs (T * 8) j))) ∧ Below w.heap.size w w' := by
  have hmk := make_bytes room (by omega)
  have HB := Lib.hid h
  have hn64 : n < 64 := by omega
  obtain ⟨X, hX⟩ : ∃ X, arr .u8 (List.replicate room 0) = X := ⟨_, rfl⟩
  have HW : Hid (Whole (w.alloc (.cells X 5)) w.heap.size 5 X ∧ Below w.heap.size w (w.alloc (.cells X 5))) := Lib.hid ⟨Whole.new w _ _, (Below.refl _ w).alloc (Nat.le_refl _) _⟩
  rw [hX] at hmk
  have HX := Lib.hid hX
  clear h hX
  go_enter Try.func84, Try.ntmps84
  go_upto_if 13 with fail
  go_cut [5] from 14 (fun s5 wc => s5 = .int .i64 room ∧ w = wc)
  case first =>
    rcases hroom with ⟨rfl, h9⟩ | ⟨rfl, h9, _⟩
    · go_wp2
      all_goals go_meet
      all_goals first | exact ⟨rfl, rfl⟩ | (exfalso; omega)
    · go_wp2
      all_goals go_meet
      all_goals first | exact ⟨rfl, rfl⟩ | (exfalso; omega)
  case rest =>
    obtain ⟨rfl, rfl⟩ := hcut
    have HS : Hid (splice (List.replicate room 0) 0 (xs.take n) = xs ++ List.replicate (room - n) 0 ∧ n = Nat.min n room) := by
      apply Lib.hid
      have := HB.out.1
      refine ⟨?_, (Nat.min_eq_left (by omega)).symm⟩
      rw [List.take_of_length_le (by omega)]
      simp [splice, this]
    go_wp2_with (refine wpList_copy_arr rfl (.tmp 16) (.tmp 17) rfl rfl rfl (ys := List.replicate room 0) (xs := xs) (by rw [HX.out]; exact HW.out.1) (HB.out.below (HW.out.2.mono hB)) (by simp) HW.out.2 (Nat.le_refl _) HS.out.2 ?_; intro w1 H1 hb1; rw [HS.out.1] at H1; obtain ⟨y, hy⟩ := tail_cell H1.out HB.out.1 hn64 (by omega); have fy := Whole.frz H1.out n; have HB1 := Lib.hid hb1; clear hb1)
    have hn0 : 0 ≤ T := Nat.zero_le _
    have hw2 := tail_start (T := T) H1.out HB.out.1 (by omega)
    have H2 := Lib.hid (And.intro hw2 (HB1.out.setCell (p := ⟨w.heap.size, n, none⟩) (Nat.le_refl _) (.int .u8 128)))
    clear hw2 HB1 H1
    go_loopw [7, 8] (fun s7 s8 wr => ∃ j : Nat, j ≤ 8 ∧ s7 = .int .i64 ((room - 1 - j : Nat) : Int) ∧ s8 = .int .u64 ((T * 8 / 256 ^ j : Nat) : Int) ∧ Whole wr w.heap.size 5 (arr .u8 (tlN room xs (T * 8) j)) ∧ Below w.heap.size w wr) (fun _ s8 _ => (intOf s8).toNat)
    case atStart =>
      refine ⟨0, by omega, ?_, ?_, H2.out.1, H2.out.2⟩
      · go_num
      · go_num
    case round =>
      clear H2 fy hy
      obtain ⟨j, hj, rfl, rfl, h1, hb⟩ := hrel
      obtain ⟨N, hN⟩ : ∃ N, T * 8 / 256 ^ j = N := ⟨_, rfl⟩
      obtain ⟨i, hi⟩ : ∃ i, room - 1 - j = i := ⟨_, rfl⟩
      have hl := tlN_length room xs (T * 8) j (by have := HB.out.1; omega)
      by_cases h0 : N = 0
      · rw [hN, hi]
        subst h0
        have HN := Lib.hid (And.intro hN (And.intro h1 hb))
        clear hN h1 hb hi hl
        go_wp2
        go_ret
        obtain ⟨hN, h1, hb⟩ := HN.out
        exact ⟨rfl, ⟨j, hj, hN, h1⟩, hb⟩
      · have hj8 : j < 8 := by
          by_cases e : j = 8
          · subst e
            have : T * 8 / 256 ^ 8 = 0 := Nat.div_eq_of_lt (by omega)
            omega
          · omega
        have hN0 : (0 : Int) < (N : Int) := by omega
        have hi1 : (i : Int) < (room : Int) := by omega
        have hi0 : 1 ≤ i := by omega
        have hroom' : (room : Int) ≤ 128 := by omega
        have q := h1.at_ (i := i) (by rw [hl]; omega)
        obtain ⟨y, hy⟩ : ∃ y, (tlN room xs (T * 8) j).getD i 0 = y := ⟨_, rfl⟩
        rw [hy] at q
        have f := h1.frz i
        have hp := h1.put i ((T * 8 / 256 ^ j % 256 : Nat) : Int)
        have hnext : tlN room xs (T * 8) (j + 1) = (tlN room xs (T * 8) j).set i ((T * 8 / 256 ^ j % 256 : Nat) : Int) := by rw [tlN, hi]
        rw [← hnext, hN] at hp
        rw [hN, hi]
        have HN := Lib.hid (And.intro hp (And.intro hb (And.intro hN hi)))
        clear hp hnext hy hl h1 hb hN hi hroom
        go_wp2
        go_roundw
        case rel =>
          obtain ⟨hp, hb, hN, hi⟩ := HN.out
          refine ⟨j + 1, by omega, ?_, ?_, hp, hb.setCell (Nat.le_refl _) _⟩
          · have : ((room - 1 - (j + 1) : Nat) : Int) = (i : Int) - 1 := by omega
            rw [this]
          · rw [Nat.pow_succ, ← Nat.div_div_eq_div_mul, hN]
            rfl
        case measure => simp [intOf]; omega

end Go.Proofs.Yteloaidnfcmadaa

namespace Go.Proofs.Yteloaidnfcmadaa

theorem pk_congr (xs ys : List Int) (k : Nat) (h : ∀ i, i < k → xs.getD i 0 = ys.getD i 0) : pk xs k = pk ys k := by
  induction k with
  | zero => rfl
  | succ k ih => rw [pk, pk, ih (fun i hi => h i (by omega)), h k (by omega)]
theorem blk_congr (s : S5) (xs ys : List Int) (h : ∀ i, i < 64 → xs.getD i 0 = ys.getD i 0) : blk s xs = blk s ys := by
  rw [blk, blk, pk_congr xs ys 64 h]

theorem ext_getD {xs ys : List Int} (hl : xs.length = ys.length) (h : ∀ i, i < xs.length → xs.getD i 0 = ys.getD i 0) : xs = ys := by
  apply List.ext_getElem hl
  intro i h1 h2
  have := h i h1
  simpa [List.getD, h1, h2] using this

theorem getD_set (xs : List Int) (i j : Nat) (x : Int) : (xs.set i x).getD j 0 = if i = j ∧ i < xs.length then x else xs.getD j 0 := by
  simp only [List.getD, List.getElem?_set]
  by_cases h1 : i = j
  · subst h1
    by_cases h2 : i < xs.length
    · simp [h2]
    · simp [h2]
  · simp [h1]

theorem getD_append (xs ys : List Int) (i : Nat) : (xs ++ ys).getD i 0 = if i < xs.length then xs.getD i 0 else ys.getD (i - xs.length) 0 := by
  simp only [List.getD]
  by_cases h : i < xs.length
  · rw [if_pos h, List.getElem?_append_left h]
  · rw [if_neg h, List.getElem?_append_right (Nat.le_of_not_lt h)]
theorem getD_zeros (n i : Nat) : (List.replicate n (0 : Int)).getD i 0 = 0 := by
  simp only [List.getD, List.getElem?_replicate]
  split <;> rfl
theorem getD_cons (x : Int) (xs : List Int) (i : Nat) : (x :: xs).getD i 0 = if i = 0 then x else xs.getD (i - 1) 0 := by
  cases i with
  | zero => rfl
  | succ i => simp [List.getD]
theorem getD_drop (xs : List Int) (n i : Nat) : (xs.drop n).getD i 0 = xs.getD (n + i) 0 := by
  simp [List.getD]
theorem getD_out (xs : List Int) (i : Nat) (h : xs.length ≤ i) : xs.getD i 0 = 0 := by
  simp [List.getD, List.getElem?_eq_none h]

@[simp] theorem be8_length (n : Nat) : (be8 n).length = 8 := rfl
theorem be8_getD (n i : Nat) (h : i < 8) : (be8 n).getD i 0 = ((n / 256 ^ (7 - i) % 256 : Nat) : Int) := by
  match i, h with
  | 0, _ => rfl
  | 1, _ => rfl
  | 2, _ => rfl
  | 3, _ => rfl
  | 4, _ => rfl
  | 5, _ => rfl
  | 6, _ => simp [be8]
  | 7, _ => simp [be8]

theorem tlN_getD (room r : Nat) (ys : List Int) (N : Nat) (hr : ys.length = r) (hroom : r + 9 ≤ room) (j : Nat) (hj : j ≤ 8) (p : Nat) (hp : p < room) :
    (tlN room ys N j).getD p 0 = if p < r then ys.getD p 0 else if p = r then 128 else if room - 1 - p < j then ((N / 256 ^ (room - 1 - p) % 256 : Nat) : Int) else 0 := by
  induction j with
  | zero =>
    rw [tlN, getD_set, hr]
    simp only [List.length_append, List.length_replicate, hr]
    by_cases h1 : p < r
    · rw [if_neg (by omega), if_pos h1, getD_append, hr, if_pos h1]
    · by_cases h2 : p = r
      · rw [if_pos (by omega), if_neg h1, if_pos h2]
      · rw [if_neg (by omega), if_neg h1, if_neg h2, if_neg (by omega), getD_append, hr, if_neg h1, getD_zeros]
  | succ j ih =>
    rw [tlN, getD_set, tlN_length room ys N j (by omega), ih (by omega)]
    by_cases h1 : p < r
    · rw [if_neg (by omega), if_pos h1, if_pos h1]
    · by_cases h2 : p = r
      · rw [if_neg (by omega), if_neg h1, if_pos h2, if_neg h1, if_pos h2]
      · rw [if_neg h1, if_neg h2, if_neg h1, if_neg h2]
        by_cases h3 : room - 1 - j = p
        · rw [if_pos (by omega), if_pos (by omega)]
          have : room - 1 - p = j := by omega
          rw [this]
        · rw [if_neg (by omega)]
          by_cases h4 : room - 1 - p < j
          · rw [if_pos h4, if_pos (by omega)]
          · rw [if_neg h4, if_neg (by omega)]

theorem div_zero_more (N j k : Nat) (h : N / 256 ^ j = 0) (hk : j ≤ k) : N / 256 ^ k = 0 := by
  obtain ⟨d, rfl⟩ : ∃ d, k = j + d := ⟨k - j, by omega⟩
  rw [Nat.pow_add, ← Nat.div_div_eq_div_mul, h, Nat.zero_div]

theorem tlN_eq (room r : Nat) (ys : List Int) (N : Nat) (hr : ys.length = r) (h64 : r < 64) (hroom : (room = 64 ∧ r + 9 ≤ 64) ∨ (room = 128 ∧ 64 < r + 9)) (j : Nat) (hj : j ≤ 8) (h0 : N / 256 ^ j = 0) :
    tlN room ys N j = ys ++ 128 :: (List.replicate ((119 - r) % 64) 0 ++ be8 N) := by
  have hz : (119 - r) % 64 = room - 9 - r := by omega
  have hroom' : r + 9 ≤ room := by omega
  rw [hz]
  apply ext_getD
  · rw [tlN_length room ys N j (by omega)]
    simp [hr]
    omega
  · intro p hp
    rw [tlN_length room ys N j (by omega)] at hp
    rw [tlN_getD room r ys N hr hroom' j hj p hp, getD_append, hr]
    by_cases h1 : p < r
    · rw [if_pos h1, if_pos h1]
    · rw [if_neg h1, if_neg h1, getD_cons]
      by_cases h2 : p = r
      · rw [if_pos h2, if_pos (by omega)]
      · have e1 : ¬ p - r = 0 := by omega
        rw [if_neg h2, if_neg e1, getD_append, List.length_replicate, getD_zeros]
        by_cases h3 : p - r - 1 < room - 9 - r
        · rw [if_pos h3, if_neg (by omega)]
        · rw [if_neg h3, be8_getD _ _ (by omega)]
          have e : 7 - (p - r - 1 - (room - 9 - r)) = room - 1 - p := by omega
          rw [e]
          by_cases h4 : room - 1 - p < j
          · rw [if_pos h4]
          · rw [if_neg h4, div_zero_more N j _ h0 (by omega)]
            rfl

/-- How many blocks a message of n bytes has. -/
def blocks (n : Nat) : Nat := (n + 9 + (119 - n % 64) % 64) / 64
theorem blocks_is (n room : Nat) (h : (room = 64 ∧ n % 64 + 9 ≤ 64) ∨ (room = 128 ∧ 64 < n % 64 + 9)) : blocks n = n / 64 + room / 64 := by
  unfold blocks
  omega

theorem padT_in8 (n T i : Nat) : 0 ≤ (padT n T).getD i 0 ∧ (padT n T).getD i 0 < 256 := by
  rw [padT, getD_cons]
  by_cases h0 : i = 0
  · rw [if_pos h0]
    omega
  · rw [if_neg h0, getD_append, getD_zeros]
    by_cases h1 : i - 1 < (List.replicate ((119 - n % 64) % 64) (0 : Int)).length
    · rw [if_pos h1]
      omega
    · rw [if_neg h1]
      by_cases h2 : i - 1 - (List.replicate ((119 - n % 64) % 64) (0 : Int)).length < 8
      · rw [be8_getD _ _ h2]
        omega
      · rw [getD_out _ _ (by rw [be8_length]; omega)]
        omega
theorem append_in8 {xs ys : List Int} (hx : ∀ i, 0 ≤ xs.getD i 0 ∧ xs.getD i 0 < 256) (hy : ∀ i, 0 ≤ ys.getD i 0 ∧ ys.getD i 0 < 256) (i : Nat) : 0 ≤ (xs ++ ys).getD i 0 ∧ (xs ++ ys).getD i 0 < 256 := by
  rw [getD_append]
  split
  · exact hx i
  · exact hy _

end Go.Proofs.Yteloaidnfcmadaa

namespace Go.Proofs.Yteloaidnfcmadaa
open Go.RowKit
set_option linter.unusedVariables false

theorem state_cells {w : World} {g : Nat} {s : S5} (h : Whole w g 131 (arr .u32 s.list)) : w.cell? ⟨g, 0, none⟩ = some (.int .u32 s.a) ∧ w.cell? ⟨g, 1, none⟩ = some (.int .u32 s.b) ∧ w.cell? ⟨g, 2, none⟩ = some (.int .u32 s.c) ∧ w.cell? ⟨g, 3, none⟩ = some (.int .u32 s.d) ∧ w.cell? ⟨g, 4, none⟩ = some (.int .u32 s.e) :=
  ⟨h.cell 0, h.cell 1, h.cell 2, h.cell 3, h.cell 4⟩

/-- What the first loop keeps. -/
structure EndAt (w : World) (m : List Int) (s : S5) (B : Nat) (n : Nat) (xs : List Int) (k : Nat) (A : Option Addr) (len cap : Nat) (wr : World) : Prop where
  lenIs : len + 64 * k = n
  capIn : len ≤ cap
  capBig : cap ≤ maxLen
  bytes : Bs wr B A len (xs.drop (64 * k))
  state : Whole wr w.heap.size 131 (arr .u32 (blks s m k).list)
  res : Whole wr (w.heap.size + 1) 81 (arr .u8 z20)
  below : Below w.heap.size w wr

/-- One block more, as the walk meets it. -/
theorem next_block {T : Nat} {w : World} {m : List Int} {s : S5} {B n : Nat} {xs : List Int} {k : Nat} {ad : Addr} {len cap : Nat} {wr : World} (hE : EndAt w m s B n xs k (some ad) len cap wr) (hlt : 64 ≤ len) (hm : m = xs ++ padT n T) (hxn : xs.length = n) (hx : ∀ i, 0 ≤ xs.getD i 0 ∧ xs.getD i 0 < 256) (hB : B ≤ w.heap.size) :
    Calls Try.prog 83 #[.agg (arr .u32 (blks s m k).list), .slice (some ad) 64 cap] wr.drew fun e w' => e = .returned (.agg (arr .u32 (blks s m (k + 1)).list)) ∧ Below wr.heap.size wr.drew w' := by
  obtain ⟨ad', hA, hab, hc⟩ := hE.bytes.2 (by omega)
  cases hA
  have hz := hE.below.size
  have hb := behind_arr (blks s m k) ad cap (xs.drop (64 * k)) wr.drew (fun i => by rw [getD_drop]; exact hx _) (fun i hi => hc i (by omega)) (by show ad.block < wr.heap.size; omega)
  have e : blk (blks s m k) (xs.drop (64 * k)) = blks s m (k + 1) := by
    rw [blks]
    refine blk_congr _ _ _ fun i hi => ?_
    have := hE.lenIs
    rw [getD_drop, getD_drop, hm, getD_append, if_pos (by omega)]
  rw [e] at hb
  exact hb

theorem EndAt.next {w : World} {m : List Int} {s : S5} {B n : Nat} {xs : List Int} {k : Nat} {A : Option Addr} {len cap : Nat} {wr w' : World} (hE : EndAt w m s B n xs k A len cap wr) (hlt : 64 ≤ len) (hb : Below wr.heap.size wr.drew w') (hB : B ≤ w.heap.size) {S' : Array Value} (hS : S' = arr .u32 (blks s m (k + 1)).list) :
    EndAt w m s B n xs (k + 1) (if cap = 64 then A else A.map (·.add 64)) (len - 64) (cap - 64) (w'.setRow w.heap.size S') := by
  have hbw : Below w.heap.size w w' := hE.below.drew.trans (hb.mono hE.below.size)
  have h1 : Whole w' w.heap.size 131 (arr .u32 (blks s m k).list) := hE.state.drew.below hb hE.state.lt
  have h2 : Whole w' (w.heap.size + 1) 81 (arr .u8 z20) := hE.res.drew.below hb hE.res.lt
  have e := hE.lenIs
  have e1 := hE.capIn
  have e2 := hE.capBig
  have hz := hE.below.size
  have h3 := hE.bytes.cut hlt e1
  have hd : (xs.drop (64 * k)).drop 64 = xs.drop (64 * (k + 1)) := by rw [List.drop_drop]; congr 1
  rw [hd] at h3
  have h4 : Bs w' B (if cap = 64 then A else A.map (·.add 64)) (len - 64) (xs.drop (64 * (k + 1))) := Bs.below (w := wr) (show Bs wr B _ _ _ from h3) (Below.mono (show Below wr.heap.size wr w' from ⟨hb.os, hb.tape, hb.output, hb.size, hb.block⟩) (by omega))
  subst hS
  exact ⟨by omega, by omega, by omega, h4.below (below_row (Below.refl _ _) (by omega) _), Whole.row h1 _, h2.farRow (by omega) _, below_row hbw (Nat.le_refl _) _⟩

/-- What the second loop keeps: j blocks of the last ones are done, k0 lie ahead of them. -/
structure TailAt (w : World) (m : List Int) (s : S5) (k0 : Nat) (tl : List Int) (g room : Nat) (j : Nat) (off len : Nat) (wr : World) : Prop where
  lenIs : len + 64 * j = room
  offIs : 0 < len → off = 64 * j
  row : Whole wr g 5 (arr .u8 tl)
  state : Whole wr w.heap.size 131 (arr .u32 (blks s m (k0 + j)).list)
  res : Whole wr (w.heap.size + 1) 81 (arr .u8 z20)
  below : Below w.heap.size w wr

/-- What is known of the last blocks. -/
structure Last (w : World) (m : List Int) (n k0 : Nat) (tl : List Int) (g room : Nat) : Prop where
  roomIs : room = 64 ∨ room = 128
  size : tl.length = room
  msg : ∀ i, i < room → tl.getD i 0 = m.getD (64 * k0 + i) 0
  in8 : ∀ i, 0 ≤ tl.getD i 0 ∧ tl.getD i 0 < 256
  apart : w.heap.size + 1 < g
  all : blocks n = k0 + room / 64

theorem last_of {w : World} {m : List Int} {s : S5} {B n : Nat} {xs : List Int} {k : Nat} {A : Option Addr} {len cap : Nat} {wr w' : World} {T room : Nat} (hE : EndAt w m s B n xs k A len cap wr) (hm : m = xs ++ padT n T) (hxn : xs.length = n) (hx : ∀ i, 0 ≤ xs.getD i 0 ∧ xs.getD i 0 < 256)
    (hroom : (room = 64 ∧ len + 9 ≤ 64) ∨ (room = 128 ∧ 64 < len + 9 ∧ len < 64)) (hW : ∃ j, j ≤ 8 ∧ T * 8 / 256 ^ j = 0 ∧ Whole w' wr.heap.size 5 (arr .u8 (tlN room (xs.drop (64 * k)) (T * 8) j))) (hb : Below wr.heap.size wr w') :
    ∃ tl, Last w m n k tl wr.heap.size room ∧ TailAt w m s k tl wr.heap.size room 0 0 room w' := by
  obtain ⟨j, hj, h0, hW⟩ := hW
  have hl := hE.lenIs
  have hr : n % 64 = len := by omega
  have hk : n / 64 = k := by omega
  have hd : (xs.drop (64 * k)).length = len := by rw [List.length_drop]; omega
  have e := tlN_eq room len (xs.drop (64 * k)) (T * 8) hd (by omega) (by omega) j hj h0
  rw [e] at hW
  have hp : 128 :: (List.replicate ((119 - len) % 64) 0 ++ be8 (T * 8)) = padT n T := by rw [padT, hr]
  rw [hp] at hW
  have hz := hE.res.lt
  refine ⟨xs.drop (64 * k) ++ padT n T, ⟨by omega, ?_, fun i hi => ?_, ?_, by omega, ?_⟩, ⟨by omega, fun _ => rfl, hW, ?_, ?_, hE.below.trans (hb.mono hE.below.size)⟩⟩
  · rw [List.length_append, hd, padT, hr]
    simp
    omega
  · rw [hm, getD_append, getD_append, hd]
    by_cases h : i < len
    · rw [if_pos h, if_pos (by omega), getD_drop]
    · rw [if_neg h, if_neg (by omega)]
      congr 1
      omega
  · exact append_in8 (fun i => by rw [getD_drop]; exact hx _) (padT_in8 _ _)
  · rw [← hk]
    exact blocks_is n room (by omega)
  · exact hE.state.under hb
  · exact hE.res.under hb

theorem next_last {w : World} {m : List Int} {s : S5} {n k0 : Nat} {tl : List Int} {g room j off len : Nat} {wr : World} (hL : Last w m n k0 tl g room) (hE : TailAt w m s k0 tl g room j off len wr) (hlt : 0 < len) :
    Calls Try.prog 83 #[.agg (arr .u32 (blks s m (k0 + j)).list), .slice (some ⟨g, off, none⟩) 64 len] wr.drew fun e w' => e = .returned (.agg (arr .u32 (blks s m (k0 + (j + 1))).list)) ∧ Below wr.heap.size wr.drew w' := by
  obtain rfl := hE.offIs hlt
  have h1 := hL.size
  have h2 := hE.lenIs
  have h3 := hL.roomIs
  have hb := behind_arr (blks s m (k0 + j)) ⟨g, 64 * j, none⟩ len (tl.drop (64 * j)) wr.drew (fun i => by rw [getD_drop]; exact hL.in8 _) (fun i hi => by
    rw [Addr.add_lit, getD_drop]
    exact hE.row.at_ (by omega)) hE.row.lt
  have e : blk (blks s m (k0 + j)) (tl.drop (64 * j)) = blks s m (k0 + (j + 1)) := by
    rw [show k0 + (j + 1) = (k0 + j) + 1 by omega, blks]
    refine blk_congr _ _ _ fun i hi => ?_
    rw [getD_drop, getD_drop, hL.msg _ (by omega)]
    congr 1
    omega
  rw [e] at hb
  exact hb

theorem TailAt.next {w : World} {m : List Int} {s : S5} {n k0 : Nat} {tl : List Int} {g room j off len : Nat} {wr w' : World} (hL : Last w m n k0 tl g room) (hE : TailAt w m s k0 tl g room j off len wr) (hlt : 0 < len) (hb : Below wr.heap.size wr.drew w') :
    TailAt w m s k0 tl g room (j + 1) (if len = 64 then off else off + 64) (len - 64) (w'.setRow w.heap.size (arr .u32 (blks s m (k0 + (j + 1))).list)) := by
  have e := hE.lenIs
  have eo := hE.offIs hlt
  have h3 := hL.roomIs
  have ha := hL.apart
  have hbw : Below w.heap.size w w' := hE.below.drew.trans (hb.mono hE.below.size)
  have h1 : Whole w' w.heap.size 131 (arr .u32 (blks s m (k0 + j)).list) := hE.state.drew.below hb hE.state.lt
  have h2 : Whole w' (w.heap.size + 1) 81 (arr .u8 z20) := hE.res.drew.below hb hE.res.lt
  have h4 : Whole w' g 5 (arr .u8 tl) := hE.row.drew.below hb hE.row.lt
  exact ⟨by omega, fun h => by rw [if_neg (by omega)]; omega, h4.farRow (by omega) _, Whole.row h1 _, h2.farRow (by omega) _, below_row hbw (Nat.le_refl _) _⟩

set_option maxHeartbeats 6400000 in
set_option maxRecDepth 100000 in
theorem end_walk (s : S5) (ahead : Nat) (A : Option Addr) (n cap : Nat) (xs : List Int) (B : Nat) (w : World) (h : Bs w B A n xs) (hB : B ≤ w.heap.size) (hcap : n ≤ cap) (hmax : cap ≤ maxLen) (hx : ∀ i, 0 ≤ xs.getD i 0 ∧ xs.getD i 0 < 256)
    (ha : ahead ≤ 281474976710656) (hn : n ≤ 281474976710656) (m : List Int) (hm : m = xs ++ padT n (ahead + n)) :
    Calls Try.prog 81 #[.agg (arr .u32 s.list), .int .u64 ahead, .slice A n cap] w fun e w' => e = .returned (.agg (arr .u8 (dig (blks s m (blocks n))))) ∧ Below w.heap.size w w' := by
  have hz := Try.zero81
  have hE0 : EndAt w m s B n xs 0 A n cap ((w.alloc (.cells (arr .u32 s.list) 131)).alloc (.cells (arr .u8 z20) 81)) :=
    ⟨by omega, hcap, hmax, h.below ((two_new _ _ _ _).mono hB), (Whole.new _ _ _).alloc _, Whole.new2 _ _ _ _, two_new _ _ _ _⟩
  have HE := Lib.hid hE0
  have HM := Lib.hid (And.intro hm (And.intro h.1 (And.intro hx hB)))
  obtain ⟨S0, hS0⟩ : ∃ S0, arr .u32 s.list = S0 := ⟨_, rfl⟩
  rw [hS0] at HE ⊢
  clear hE0 h hm hx hS0
  go_enter Try.func81, Try.ntmps81
  go_wp2_with fail
  go_loopw [2] (fun s2 wr => ∃ k A' len cap', s2 = .slice A' len cap' ∧ EndAt w m s B n xs k A' len cap' wr) (fun s2 _ => match s2 with | .slice _ len _ => len | _ => 0)
  case atStart => exact ⟨0, A, n, cap, rfl, HE.out⟩
  case round =>
    obtain ⟨k, A', len, cap', rfl, hE⟩ := hrel
    by_cases hlt : 64 ≤ len
    · have hl := hE.lenIs
      have hc1 := hE.capIn
      have hc2 := hE.capBig
      obtain ⟨ad, rfl, _, _⟩ := hE.bytes.2 (by omega)
      have hN := next_block (T := ahead + n) hE hlt HM.out.1 HM.out.2.1 HM.out.2.2.1 HM.out.2.2.2
      have hX : ∀ w', Below wr.heap.size wr.drew w' → EndAt w m s B n xs (k + 1) (if cap' = 64 then some ad else some (ad.add 64)) (len - 64) (cap' - 64) (w'.setRow w.heap.size (arr .u32 (blks s m (k + 1)).list)) := fun w' hb => hE.next hlt hb HM.out.2.2.2 rfl
      obtain ⟨q0, q1, q2, q3, q4⟩ := state_cells hE.state
      have hst : ∀ w', Below wr.heap.size wr.drew w' → Whole w' w.heap.size 131 (arr .u32 (blks s m k).list) := fun w' hb => hE.state.drew.below hb hE.state.lt
      have hlit : arr .u32 (blks s m k).list = #[.int .u32 (blks s m k).a, .int .u32 (blks s m k).b, .int .u32 (blks s m k).c, .int .u32 (blks s m k).d, .int .u32 (blks s m k).e] := rfl
      rw [hlit] at hN hst
      obtain ⟨r, hr⟩ : ∃ r, blks s m k = r := ⟨_, rfl⟩
      obtain ⟨S', hS'⟩ : ∃ S', arr .u32 (blks s m (k + 1)).list = S' := ⟨_, rfl⟩
      have hS1 : S'.size = 5 ∧ S'.all (·.oneCell') = true := by rw [← hS']; exact ⟨rfl, arr_one _ _⟩
      rw [hr] at q0 q1 q2 q3 q4 hN hst
      rw [hS'] at hN hX
      obtain ⟨a0, b0, c0, d0, e0⟩ := r
      dsimp only at q0 q1 q2 q3 q4 hN hst
      unfold maxLen at hc2
      have hl64 : (64 : Int) ≤ (len : Int) := by omega
      have hc64 : (64 : Int) ≤ (cap' : Int) := by omega
      have HN := Lib.hid (And.intro hN (And.intro hX (And.intro hst hS1)))
      clear hN hX hE hl hS' hr hst hlit hS1
      by_cases hcc : cap' = 64
      · subst hcc
        go_upto_region 4 with fail
        go_still_tail 3, (by kernel_rfl)
        change wpList _ _ _ _ _ wr.drew
        go_wp2_with (first
          | (go_at_call 83; (with_reducible refine HN.out.1.mono ?_); rintro e w' ⟨rfl, hb⟩)
          | (refine wpList_store_whole rfl 131 (.tmp 3) (.tmp 22) rfl rfl rfl (HN.out.2.2.1 _ (by assumption)) Try.info131 HN.out.2.2.2.1 (by rfl) HN.out.2.2.2.2 ?_))
        have hX := HN.out.2.1 w' hb
        rw [if_pos trivial, show len - 64 = 0 by omega] at hX
        exact ⟨⟨k + 1, _, _, _, rfl, hX⟩, show 0 < len by omega⟩
      · have hcc' : ¬ (64 : Int) = (cap' : Int) := by omega
        go_upto_region 4 with fail
        go_still_tail 3, (by kernel_rfl)
        change wpList _ _ _ _ _ wr.drew
        go_wp2_with (first
          | (go_at_call 83; (with_reducible refine HN.out.1.mono ?_); rintro e w' ⟨rfl, hb⟩)
          | (refine wpList_store_whole rfl 131 (.tmp 3) (.tmp 22) rfl rfl rfl (HN.out.2.2.1 _ (by assumption)) Try.info131 HN.out.2.2.2.1 (by rfl) HN.out.2.2.2.2 ?_))
        have hX := HN.out.2.1 w' hb
        rw [if_neg hcc] at hX
        exact ⟨⟨k + 1, _, _, _, rfl, hX⟩, show len - 64 < len by omega⟩
    · have hl := hE.lenIs
      have hc1 := hE.capIn
      have hc2 := hE.capBig
      have hlen : len < 64 := by omega
      obtain ⟨room, hroom⟩ : ∃ room, (room = 64 ∧ len + 9 ≤ 64) ∨ (room = 128 ∧ 64 < len + 9 ∧ len < 64) := by
        by_cases h9 : len + 9 ≤ 64
        · exact ⟨64, .inl ⟨rfl, h9⟩⟩
        · exact ⟨128, .inr ⟨rfl, by omega, by omega⟩⟩
      have hT := tail_walk A' len cap' (ahead + n) room (xs.drop (64 * k)) B wr hE.bytes (Nat.le_trans HM.out.2.2.2 hE.below.size) hroom (by omega)
      rw [Int.natCast_add] at hT
      have HT := Lib.hid hT
      have HN := Lib.hid (And.intro hE hroom)
      clear hE hT hroom HE
      go_wp2_with (go_at_call 84; (with_reducible refine HT.out.mono ?_))
      rintro e w1 ⟨rfl, hj, hb1⟩
      obtain ⟨hE, hroom⟩ := HN.out
      obtain ⟨tl, hL, hA⟩ := last_of (T := ahead + n) hE HM.out.1 HM.out.2.1 HM.out.2.2.1 hroom hj hb1
      obtain ⟨g, hg⟩ : ∃ g, wr.heap.size = g := ⟨_, rfl⟩
      rw [hg] at hL hA ⊢
      have HL := Lib.hid (And.intro hL hA)
      clear hL hA hj hb1 hE hroom hg HN HT hlen hl hc1 hc2 hlt
      go_wp2_with fail
      clear HM
      go_loopw [8] (fun s8 wr => ∃ j off len, s8 = .slice (some ⟨g, off, none⟩) len len ∧ TailAt w m s k tl g room j off len wr) (fun s8 _ => match s8 with | .slice _ len _ => len | _ => 0)
      case atStart => exact ⟨0, 0, room, rfl, HL.out.2⟩
      case round =>
        obtain ⟨j, off, len, rfl, hE⟩ := hrel
        have hl := hE.lenIs
        have hr := HL.out.1.roomIs
        by_cases hlt : 0 < len
        · have hN := next_last HL.out.1 hE hlt
          have hX := fun w' hb => TailAt.next (w' := w') HL.out.1 hE hlt hb
          obtain ⟨q0, q1, q2, q3, q4⟩ := state_cells hE.state
          have hst : ∀ w', Below wr.heap.size wr.drew w' → Whole w' w.heap.size 131 (arr .u32 (blks s m (k + j)).list) := fun w' hb => hE.state.drew.below hb hE.state.lt
          have hlit : arr .u32 (blks s m (k + j)).list = #[.int .u32 (blks s m (k + j)).a, .int .u32 (blks s m (k + j)).b, .int .u32 (blks s m (k + j)).c, .int .u32 (blks s m (k + j)).d, .int .u32 (blks s m (k + j)).e] := rfl
          rw [hlit] at hN hst
          obtain ⟨r, hr⟩ : ∃ r, blks s m (k + j) = r := ⟨_, rfl⟩
          obtain ⟨S', hS'⟩ : ∃ S', arr .u32 (blks s m (k + (j + 1))).list = S' := ⟨_, rfl⟩
          have hS1 : S'.size = 5 ∧ S'.all (·.oneCell') = true := by rw [← hS']; exact ⟨rfl, arr_one _ _⟩
          rw [hr] at q0 q1 q2 q3 q4 hN hst
          rw [hS'] at hN hX
          obtain ⟨a0, b0, c0, d0, e0⟩ := r
          dsimp only at q0 q1 q2 q3 q4 hN hst
          have HN := Lib.hid (And.intro hN (And.intro hX (And.intro hst hS1)))
          clear hN hX hE hS' hr hst hlit hS1
          obtain h64 | h128 : len = 64 ∨ len = 128 := by omega
          · subst h64
            clear hl
            go_upto_region 8 with fail
            go_still_tail 3, (by kernel_rfl)
            change wpList _ _ _ _ _ wr.drew
            go_wp2_with (first
              | (go_at_call 83; (with_reducible refine HN.out.1.mono ?_); rintro e w' ⟨rfl, hb⟩)
              | (refine wpList_store_whole rfl 131 (.tmp 3) (.tmp 34) rfl rfl rfl (HN.out.2.2.1 _ (by assumption)) Try.info131 HN.out.2.2.2.1 (by rfl) HN.out.2.2.2.2 ?_))
            have hX := HN.out.2.1 w' hb
            rw [if_pos trivial] at hX
            exact ⟨⟨j + 1, _, _, rfl, hX⟩, show 0 < 64 by omega⟩
          · subst h128
            clear hl
            go_upto_region 8 with fail
            go_still_tail 3, (by kernel_rfl)
            change wpList _ _ _ _ _ wr.drew
            go_wp2_with (first
              | (go_at_call 83; (with_reducible refine HN.out.1.mono ?_); rintro e w' ⟨rfl, hb⟩)
              | (refine wpList_store_whole rfl 131 (.tmp 3) (.tmp 34) rfl rfl rfl (HN.out.2.2.1 _ (by assumption)) Try.info131 HN.out.2.2.2.1 (by rfl) HN.out.2.2.2.2 ?_))
            have hX := HN.out.2.1 w' hb
            exact ⟨⟨j + 1, _, _, rfl, hX⟩, show 64 < 128 by omega⟩
        · obtain rfl : len = 0 := by omega
          have hall := HL.out.1.all
          have hj : k + j = blocks n := by omega
          have hst := hE.state
          rw [hj] at hst
          have HN := Lib.hid (And.intro hst (And.intro hE.res hE.below))
          have HS := Lib.hid (sbytes_any (blks s m (blocks n)) wr)
          obtain ⟨S', hS'⟩ : ∃ S', arr .u32 (blks s m (blocks n)).list = S' := ⟨_, rfl⟩
          have hS1 : S'.size = 5 := by rw [← hS']; rfl
          rw [hS'] at HN HS
          have H5 := Lib.hid hS1
          clear hst hE hall hj hl hr hS' hS1
          go_wp2_with (first
            | (refine wpList_load_whole rfl 131 (.tmp 3) rfl rfl HN.out.1 Try.underlying131 Try.info131 H5.out ?_)
            | (go_at_call 85; (with_reducible refine HS.out.mono ?_); rintro e w' ⟨rfl, hb⟩)
            | (refine wpList_store_whole rfl 81 (.tmp 6) (.tmp 36) rfl rfl rfl (HN.out.2.1.under hb) Try.info81 (by rw [arr_size]; exact digN_length _ _) (by rfl) (arr_one _ _) ?_))
          refine bodyPost_ret (v := .agg (arr .u8 (dig (blks s m (blocks n))))) ?_ rfl ?_
          · exact ret_whole (g := w.heap.size + 1) rfl rfl (Whole.row (HN.out.2.1.under hb) _) Try.underlying81 Try.info81 (by rw [arr_size]; exact digN_length _ _)
          · exact ⟨rfl, below_row (HN.out.2.2.trans (hb.mono HN.out.2.2.size)) (by omega) _⟩

theorem end_any (s : S5) (ahead : Nat) (A : Option Addr) (n cap : Nat) (xs : List Int) (B : Nat) (w : World) (h : Bs w B A n xs) (hB : B ≤ w.heap.size) (hcap : n ≤ cap) (hmax : cap ≤ maxLen) (hx : ∀ i, 0 ≤ xs.getD i 0 ∧ xs.getD i 0 < 256)
    (ha : ahead ≤ 281474976710656) (hn : n ≤ 281474976710656) :
    Calls Try.prog 81 #[.agg (arr .u32 s.list), .int .u64 ahead, .slice A n cap] w fun e w' => e = .returned (.agg (arr .u8 (shaFrom s ahead xs))) ∧ Below w.heap.size w w' := by
  have h1 := end_walk s ahead A n cap xs B w h hB hcap hmax hx ha hn _ rfl
  unfold shaFrom
  rw [h.1]
  exact h1

end Go.Proofs.Yteloaidnfcmadaa

namespace Go.Proofs.Yteloaidnfcmadaa
open Go.RowKit
set_option linter.unusedVariables false

set_option maxHeartbeats 800000 in
theorem sum_any (A : Option Addr) (n cap : Nat) (xs : List Int) (B : Nat) (w : World) (h : Bs w B A n xs) (hB : B ≤ w.heap.size) (hcap : n ≤ cap) (hmax : cap ≤ maxLen) (hx : ∀ i, 0 ≤ xs.getD i 0 ∧ xs.getD i 0 < 256) (hn : n ≤ 281474976710656) :
    Calls Try.prog 79 #[.slice A n cap] w fun e w' => e = .returned (.agg (arr .u8 (sha xs))) ∧ Below w.heap.size w w' := by
  have hz := Try.zero81
  have hE : ∀ W, Below w.heap.size w W → Calls Try.prog 81 #[.agg (arr .u32 s0.list), .int .u64 0, .slice A n cap] W fun e w' => e = .returned (.agg (arr .u8 (sha xs))) ∧ Below W.heap.size W w' := fun W hb =>
    end_any s0 0 A n cap xs B W (h.below (hb.mono hB)) (Nat.le_trans hB hb.size) hcap hmax hx (by omega) hn
  have H0 : Hid (Whole (w.alloc (.cells (arr .u8 z20) 81)) w.heap.size 81 (arr .u8 z20) ∧ Below w.heap.size w (w.alloc (.cells (arr .u8 z20) 81))) := Lib.hid ⟨Whole.new _ _ _, (Below.refl _ w).alloc (Nat.le_refl _) _⟩
  have HE := Lib.hid hE
  have HB := Lib.hid (fun W => begin_any W)
  have hl : (arr .u8 (sha xs)).size = 20 := by rw [arr_size]; exact digN_length _ _
  obtain ⟨R, hR⟩ : ∃ R, arr .u8 (sha xs) = R := ⟨_, rfl⟩
  have h1 : R.all (·.oneCell') = true := by rw [← hR]; exact arr_one _ _
  obtain ⟨S0, hS0⟩ : ∃ S0, arr .u32 s0.list = S0 := ⟨_, rfl⟩
  rw [hR] at HE hl ⊢
  rw [hS0] at HE HB
  have H1 := Lib.hid (And.intro hl h1)
  clear hE hR hS0 hl h1 h
  go_enter Try.func79, Try.ntmps79
  go_wp2_with (first
    | (go_at_call 82; (with_reducible refine (HB.out _).mono ?_); rintro e w1 ⟨rfl, hb1⟩)
    | (go_at_call 81; (with_reducible refine (HE.out _ (H0.out.2.trans (Below.mono (by assumption) H0.out.2.size))).mono ?_); rintro e w2 ⟨rfl, hb2⟩)
    | (refine wpList_store_whole rfl 81 (.tmp 2) (.tmp 5) rfl rfl rfl ((H0.out.1.under (by assumption)).under (by assumption)) Try.info81 H1.out.1 (by rfl) H1.out.2 ?_))
  refine bodyPost_ret (v := .agg R) ?_ rfl ?_
  · exact ret_whole (g := w.heap.size) rfl rfl (Whole.row ((H0.out.1.under hb1).under hb2) _) Try.underlying81 Try.info81 H1.out.1
  · have h3 := H0.out.2.trans (hb1.mono H0.out.2.size)
    exact ⟨rfl, below_row (h3.trans (hb2.mono h3.size)) (Nat.le_refl _) _⟩

end Go.Proofs.Yteloaidnfcmadaa

namespace Go.Proofs.Yteloaidnfcmadaa
open Go.RowKit
set_option linter.unusedVariables false

theorem Try.zero106 (w : World) : (zeroValue 106).run Try.prog w = .ok (.agg (arr .u8 z64)) w := by kernel_rfl
theorem Try.info106 : (Try.prog.info? 106).map (·.size) = some 64 := by kernel_rfl

theorem keyB_in8 (ks : List Int) (mask : Int) (hx : ∀ i, 0 ≤ ks.getD i 0 ∧ ks.getD i 0 < 256) (hm : 0 ≤ mask ∧ mask < 256) (j : Nat) : ∀ i, 0 ≤ (keyB ks mask j).getD i 0 ∧ (keyB ks mask j).getD i 0 < 256 := by
  induction j with
  | zero =>
    intro i
    exact append_in8 hx (fun i => by rw [getD_zeros]; omega) i
  | succ j ih =>
    intro i
    rw [keyB, getD_set]
    split
    · have := ih j
      rw [u8_xor _ _ this.1 this.2 hm.1 hm.2]
      have := Nat.xor_lt_two_pow (n := 8) (x := ((keyB ks mask j).getD j 0).toNat) (y := mask.toNat) (by omega) (by omega)
      omega
    · exact ih i

set_option maxHeartbeats 3200000 in
set_option maxRecDepth 100000 in
theorem keyed_any (A : Option Addr) (n cap : Nat) (ks : List Int) (mask : Int) (B : Nat) (w : World) (h : Bs w B A n ks) (hB : B ≤ w.heap.size) (hn : n ≤ 64) (hx : ∀ i, 0 ≤ ks.getD i 0 ∧ ks.getD i 0 < 256) (hm : 0 ≤ mask ∧ mask < 256) :
    Calls Try.prog 80 #[.slice A n cap, .int .u8 mask] w fun e w' => e = .returned (.agg (arr .u32 (keyS ks mask).list)) ∧ Below w.heap.size w w' := by
  have hz := Try.zero106
  have H0 : Hid (Whole ((w.alloc (.cells (arr .u32 z5) 131)).alloc (.cells (arr .u8 z64) 106)) w.heap.size 131 (arr .u32 z5) ∧ Whole ((w.alloc (.cells (arr .u32 z5) 131)).alloc (.cells (arr .u8 z64) 106)) (w.heap.size + 1) 106 (arr .u8 z64) ∧ Below w.heap.size w ((w.alloc (.cells (arr .u32 z5) 131)).alloc (.cells (arr .u8 z64) 106))) := Lib.hid ⟨(Whole.new _ _ _).alloc _, Whole.new2 _ _ _ _, two_new _ _ _ _⟩
  have HB := Lib.hid (And.intro h (And.intro hB (And.intro hx (And.intro hm hn))))
  obtain ⟨r, hr⟩ : ∃ r, keyS ks mask = r := ⟨_, rfl⟩
  obtain ⟨a1, b1, c1, d1, e1⟩ := r
  have hr2 : arr .u32 (keyS ks mask).list = #[.int .u32 a1, .int .u32 b1, .int .u32 c1, .int .u32 d1, .int .u32 e1] := by rw [hr]; rfl
  rw [hr2]
  have H5 := Lib.hid hr2
  clear h hx hr hr2
  go_enter Try.func80, Try.ntmps80
  have HS : Hid (splice z64 0 (ks.take n) = keyB ks mask 0 ∧ n = Nat.min n 64) := by
    apply Lib.hid
    have := HB.out.1.1
    refine ⟨?_, (Nat.min_eq_left hn).symm⟩
    rw [List.take_of_length_le (by omega)]
    have hd : List.drop n z64 = List.replicate (64 - n) 0 := by rw [z64, List.drop_replicate]
    simp only [splice, List.take_zero, List.nil_append, Nat.zero_add, this, hd, keyB]
  go_wp2_with (refine wpList_copy_arr rfl (.tmp 7) (.tmp 8) rfl rfl rfl (ys := z64) (xs := ks) H0.out.2.1 (HB.out.1.below (H0.out.2.2.mono HB.out.2.1)) (by decide) (Below.refl (w.heap.size + 1) _) (Nat.le_refl _) HS.out.2 ?_; intro w1 H1 hb1; rw [HS.out.1] at H1)
  have H2 : Hid (Whole w1 w.heap.size 131 (arr .u32 z5) ∧ Below w.heap.size w w1) := Lib.hid ⟨H0.out.1.below hb1 (Nat.lt_succ_self _), H0.out.2.2.trans (hb1.mono (Nat.le_succ _))⟩
  clear hb1 H0
  go_loopw [10] (fun s10 wr => ∃ k : Nat, k ≤ 64 ∧ s10 = .int .i64 k ∧ Whole wr w.heap.size 131 (arr .u32 z5) ∧ Whole wr (w.heap.size + 1) 106 (arr .u8 (keyB ks mask k)) ∧ Below w.heap.size w wr) (fun s10 _ => 64 - (intOf s10).toNat)
  case atStart => exact ⟨0, by omega, rfl, H2.out.1, H1.out, H2.out.2⟩
  case round =>
    clear H1 H2
    obtain ⟨k, hk, rfl, h1, h2, hb⟩ := hrel
    have hkl := keyB_length ks mask k (by have := HB.out.1.1; have := HB.out.2.2.2.2; omega)
    by_cases hlt : k < 64
    · have q := h2.at_ (i := k) (by rw [hkl]; exact hlt)
      have f := h2.frz k
      have hp := h2.put k (bits .xor .u8 ((keyB ks mask k).getD k 0) mask)
      have e : (keyB ks mask k).set k (bits .xor .u8 ((keyB ks mask k).getD k 0) mask) = keyB ks mask (k + 1) := rfl
      rw [e] at hp
      obtain ⟨y, hy⟩ : ∃ y, (keyB ks mask k).getD k 0 = y := ⟨_, rfl⟩
      rw [hy] at q hp
      have H := Lib.hid (And.intro h1 (And.intro hp hb))
      clear h1 h2 hp hb hy e hkl
      go_wp2
      go_roundw
      case rel => exact ⟨k + 1, by omega, by go_num, H.out.1.far (by simp) _, H.out.2.1, H.out.2.2.setCell (by simp) _⟩
      case measure => simp [intOf]; omega
    · obtain rfl : k = 64 := by omega
      rw [show ((64 : Nat) : Int) = 64 from rfl]
      have HN : Hid (∀ W, Below wr.heap.size wr W → Calls Try.prog 83 #[.agg (arr .u32 s0.list), .slice (some ⟨w.heap.size + 1, 0, none⟩) 64 64] W fun e w' => e = .returned (.agg (arr .u32 (keyS ks mask).list)) ∧ Below W.heap.size W w') :=
        Lib.hid fun W hbW => behind_arr s0 ⟨w.heap.size + 1, 0, none⟩ 64 (keyB ks mask 64) W (keyB_in8 ks mask HB.out.2.2.1 HB.out.2.2.2.1 64) (fun i hi => by
          rw [Addr.add_lit, Nat.zero_add]
          exact (h2.under hbW).at_ (by rw [hkl]; exact hi)) (h2.under hbW).lt
      have H := Lib.hid (And.intro h1 hb)
      have HBg := Lib.hid (fun W => begin_any W)
      rw [H5.out] at HN
      obtain ⟨S0, hS0⟩ : ∃ S0, arr .u32 s0.list = S0 := ⟨_, rfl⟩
      rw [hS0] at HN HBg
      clear h1 h2 hb hkl hS0
      go_upto_region 8 with fail
      go_region_law (first
        | (go_simp; go_at_call 82; (with_reducible refine (HBg.out _).mono ?_); rintro e w2 ⟨rfl, hb2'⟩; have hb2 : Below wr.heap.size wr w2 := ⟨hb2'.os, hb2'.tape, hb2'.output, hb2'.size, hb2'.block⟩; clear hb2')
        | (go_simp; go_at_call 83; (with_reducible refine (HN.out _ hb2).mono ?_); rintro e w3 ⟨rfl, hb3⟩; obtain ⟨p0, p1, p2, p3, p4, q0, q1, q2, q3, q4⟩ := Whole.five ((H.out.1.under hb2).under hb3)))
      all_goals
        go_wp2
        refine bodyPost_ret (v := .agg #[.int .u32 a1, .int .u32 b1, .int .u32 c1, .int .u32 d1, .int .u32 e1]) ?_ rfl ?_
        · exact ret_whole (cs := arr .u32 [a1, b1, c1, d1, e1]) (g := w.heap.size) rfl rfl (Whole.put5 ((H.out.1.under hb2).under hb3)) Try.underlying131 Try.info131 rfl
        · have h3 := H.out.2.trans (hb2.mono H.out.2.size)
          exact ⟨rfl, below_put5 (h3.trans (hb3.mono h3.size)) (Nat.le_refl _) _ _ _ _ _⟩

end Go.Proofs.Yteloaidnfcmadaa

namespace Go.Proofs.Yteloaidnfcmadaa
open Go.RowKit
set_option linter.unusedVariables false

/-- Twenty numbers that fit a block. -/
def Fit20 (R : Array Value) : Prop := R.size = 20 ∧ R.all (·.oneCell') = true
theorem fit20_from (s : S5) (a : Nat) (xs : List Int) : Fit20 (arr .u8 (shaFrom s a xs)) := by
  unfold shaFrom dig
  exact ⟨by rw [arr_size, digN_length], arr_one _ _⟩
theorem fit20_sha (xs : List Int) : Fit20 (arr .u8 (sha xs)) := by
  unfold sha
  exact fit20_from _ _ _
theorem fit20_mac (ks ms : List Int) : Fit20 (arr .u8 (mac ks ms)) := by
  unfold mac macOf
  split
  · exact fit20_from _ _ _
  · exact fit20_from _ _ _
theorem digN_in8 (s : S5) (k : Nat) : ∀ i, 0 ≤ (digN s k).getD i 0 ∧ (digN s k).getD i 0 < 256 := by
  induction k with
  | zero => intro i; rw [digN, z20, getD_zeros]; omega
  | succ k ih =>
    intro i
    rw [digN, getD_set, getD_set, getD_set, getD_set]
    have := ih i
    split
    · omega
    · split
      · omega
      · split
        · omega
        · split
          · omega
          · exact this
theorem sha_in8 (xs : List Int) : ∀ i, 0 ≤ (sha xs).getD i 0 ∧ (sha xs).getD i 0 < 256 := by
  unfold sha shaFrom dig
  exact digN_in8 _ _
theorem from_in8 (s : S5) (a : Nat) (xs : List Int) : ∀ i, 0 ≤ (shaFrom s a xs).getD i 0 ∧ (shaFrom s a xs).getD i 0 < 256 := by
  unfold shaFrom dig
  exact digN_in8 _ _

/-- Block g is a variable of twenty bytes, as it was made. -/
def New20 (w : World) (g : Nat) : Prop := Whole w g 81 (arr .u8 z20)
theorem New20.there {w : World} {g : Nat} (h : New20 w g) : w.there g 0 20 := fun j hj => by
  have e := Whole.at_ h (i := j) (by simp [z20]; exact hj)
  rw [Nat.zero_add, e]
  exact ⟨rfl, Whole.frz h j⟩

/-- Cells that are stored one by one into a block that is known whole. -/
theorem Whole.cellsM {g : Nat} {t : TypeId} : ∀ (vs : List Value) (o : Nat) (w : World) (old : List Value), Whole w g t old.toArray → o + vs.length ≤ old.length → Whole (w.setCells g o vs) g t (old.take o ++ (vs ++ old.drop (o + vs.length))).toArray
  | [], o, w, old, h, _ => by simpa [World.setCells] using h
  | v :: r, o, w, old, h, hl => by
    have hl' : o + (r.length + 1) ≤ old.length := hl
    have h1 : Whole (w.setCell ⟨g, o, none⟩ v) g t (old.set o v).toArray := by
      have := h.set o v
      rw [List.setIfInBounds_toArray] at this
      exact this
    have h2 := Whole.cellsM r (o + 1) _ (old.set o v) h1 (by rw [List.length_set]; omega)
    have e : (old.set o v).take (o + 1) ++ (r ++ (old.set o v).drop (o + 1 + r.length)) = old.take o ++ (v :: r ++ old.drop (o + (v :: r).length)) := by
      have e1 : (old.set o v).take (o + 1) = old.take o ++ [v] := by
        rw [List.take_set, List.take_succ_eq_append_getElem (by omega), List.set_append_right _ _ (by rw [List.length_take]; omega)]
        have : min o old.length = o := by omega
        simp [this]
      have e2 : (old.set o v).drop (o + 1 + r.length) = old.drop (o + (v :: r).length) := by
        rw [List.drop_set, if_pos (by omega)]
        congr 1
        simp
        omega
      rw [e1, e2]
      simp
    rw [e] at h2
    exact h2
theorem Whole.cellsAllM {w : World} {g : Nat} {t : TypeId} {old : Array Value} (h : Whole w g t old) (cs : List Value) (hl : cs.length = old.size) : Whole (w.setCells g 0 cs) g t cs.toArray := by
  obtain ⟨old⟩ := old
  have hl' : cs.length = old.length := by simpa using hl
  have := Whole.cellsM cs 0 w old h (by omega)
  rw [Nat.zero_add, List.take_zero, List.nil_append, List.drop_of_length_le (by omega), List.append_nil] at this
  exact this
theorem below_cellsM {B : Nat} {a : World} {g : Nat} (hg : B ≤ g) : ∀ (vs : List Value) (o : Nat) (w : World), Below B a w → Below B a (w.setCells g o vs)
  | [], _, _, h => h
  | v :: r, o, w, h => below_cellsM hg r (o + 1) _ (h.setCell (p := ⟨g, o, none⟩) hg v)

/-- What the key is, once it is short. -/
structure KeyAt (w : World) (msg : List Int) (ks : List Int) (R : Array Value) (A : Option Addr) (n : Nat) (wc : World) : Prop where
  bytes : Bs wc wc.heap.size A n ks
  in8 : ∀ i, 0 ≤ ks.getD i 0 ∧ ks.getD i 0 < 256
  short : n ≤ 64
  res : R = arr .u8 (macOf ks msg)
  new : New20 wc w.heap.size
  below : Below w.heap.size w wc

set_option maxHeartbeats 400000 in
set_option maxRecDepth 100000 in
theorem mac_walk (Ak Am : Option Addr) (nk ck nm cm : Nat) (ks ms : List Int) (B : Nat) (w : World) (hk : Bs w B Ak nk ks) (hm : Bs w B Am nm ms) (hB : B ≤ w.heap.size) (hck : nk ≤ ck) (hck2 : ck ≤ maxLen) (hcm : nm ≤ cm) (hcm2 : cm ≤ maxLen)
    (hkx : ∀ i, 0 ≤ ks.getD i 0 ∧ ks.getD i 0 < 256) (hmx : ∀ i, 0 ≤ ms.getD i 0 ∧ ms.getD i 0 < 256) (hnk : nk ≤ 281474976710656) (hnm : nm ≤ 281474976710656) :
    Calls Try.prog 77 #[.slice Ak nk ck, .slice Am nm cm] w fun e w' => e = .returned (.agg (arr .u8 (mac ks ms))) ∧ Below w.heap.size w w' := by
  have hz := Try.zero81
  have hF : Fit20 (arr .u8 (mac ks ms)) := fit20_mac _ _
  obtain ⟨cs, hcs⟩ : ∃ cs, (mac ks ms).map (Value.int .u8) = cs := ⟨_, rfl⟩
  have hR : arr .u8 (mac ks ms) = cs.toArray := by rw [← hcs]; rfl
  rw [hR] at hF ⊢
  have hl20 : cs.length = 20 := by simpa using hF.1
  have hone : ∀ v ∈ cs, v.oneCell' = true := by rw [← hcs]; intro v hv; obtain ⟨x, _, rfl⟩ := List.mem_map.1 hv; rfl
  have HF := Lib.hid (And.intro hl20 hone)
  clear hF hcs hl20 hone
  have hb0 : Below w.heap.size w (w.alloc (.cells (arr .u8 z20) 81)) := (Below.refl _ w).alloc (Nat.le_refl _) _
  have H0 := Lib.hid (And.intro hk (And.intro hm (And.intro hkx (And.intro hmx (And.intro hR hb0)))))
  have HN : Hid (New20 (w.alloc (.cells (arr .u8 z20) 81)) w.heap.size) := Lib.hid (Whole.new _ _ _)
  have HS := Lib.hid (sum_any Ak nk ck ks B (w.alloc (.cells (arr .u8 z20) 81)) (hk.below (hb0.mono hB)) (Nat.le_trans hB hb0.size) hck hck2 hkx hnk)
  have hF2 : Fit20 (arr .u8 (sha ks)) := fit20_sha _
  obtain ⟨R2, hR2⟩ : ∃ R2, arr .u8 (sha ks) = R2 := ⟨_, rfl⟩
  rw [hR2] at HS hF2
  have HR2 := Lib.hid hR2
  clear hk hm hkx hmx hR hb0 hR2
  go_enter Try.func77, Try.ntmps77
  go_upto_if 9 with fail
  go_cut [0, 5, 9] from 10 (fun s0 s5 s9 wc => ∃ A n c ks', s0 = .slice A n c ∧ KeyAt w ms ks' cs.toArray A n wc)
  case first =>
    by_cases h64 : 64 < nk
    · have h64' : (64 : Int) < (nk : Int) := by omega
      go_wp2_with (first
        | (go_at_call 79; (with_reducible refine HS.out.mono ?_); rintro e w1 ⟨rfl, hb1⟩)
        | (refine wpList_store_whole rfl 81 (.tmp 5) (.tmp 11) rfl rfl rfl (Whole.new _ _ _) Try.info81 hF2.1 (by rfl) hF2.2 ?_))
      go_meet
      have hb2 : Below w1.heap.size w1 ((w1.alloc (.cells (arr .u8 z20) 81)).setRow w1.heap.size R2) := below_row ((Below.refl _ w1).alloc (Nat.le_refl _) _) (Nat.le_refl _) _
      have hN1 : New20 w1 w.heap.size := Whole.under HN.out hb1
      have hW : Whole ((w1.alloc (.cells (arr .u8 z20) 81)).setRow w1.heap.size R2) w1.heap.size 81 (arr .u8 (sha ks)) := by
        rw [HR2.out]
        exact Whole.row (Whole.new _ _ _) _
      have hl : (sha ks).length = 20 := by have := (fit20_sha ks).1; rwa [arr_size] at this
      have hB := Bs.row hW 0 (Nat.zero_le _)
      rw [Nat.sub_zero, List.drop_zero, hl] at hB
      refine ⟨_, _, _, _, rfl, hB.more (by simp), sha_in8 _, by omega, ?_, Whole.under hN1 hb2, ?_⟩
      · rw [← H0.out.2.2.2.2.1, mac, if_pos (by rw [H0.out.1.1]; exact h64)]
      · have h3 := H0.out.2.2.2.2.2
        have h4 := h3.trans (hb1.mono h3.size)
        exact h4.trans (hb2.mono h4.size)
    · have h64' : ¬ (64 : Int) < (nk : Int) := by omega
      go_wp2_with fail
      go_meet
      refine ⟨_, _, _, ks, rfl, ⟨(H0.out.1.below (H0.out.2.2.2.2.2.mono hB)).more (by simp; omega), H0.out.2.2.1, by omega, ?_, HN.out, H0.out.2.2.2.2.2⟩⟩
      rw [← H0.out.2.2.2.2.1, mac, if_neg (by rw [H0.out.1.1]; omega)]
  case rest =>
    obtain ⟨A, n, c, ks', rfl, hK⟩ := hcut
    have HK := Lib.hid hK
    have hf1 : Fit20 (arr .u8 (shaFrom (keyS ks' 54) 64 ms)) := fit20_from _ _ _
    have hres := hK.res
    have HK1 := Lib.hid (keyed_any A n c ks' 54 wc.heap.size wc hK.bytes (Nat.le_refl _) hK.short hK.in8 (by omega))
    have HE1 : Hid (∀ W, Below wc.heap.size wc W → Calls Try.prog 81 #[.agg (arr .u32 (keyS ks' 54).list), .int .u64 64, .slice Am nm cm] W fun e w' => e = .returned (.agg (arr .u8 (shaFrom (keyS ks' 54) 64 ms))) ∧ Below W.heap.size W w') :=
      Lib.hid fun W hb => end_any (keyS ks' 54) 64 Am nm cm ms B W (H0.out.2.1.below ((hK.below.trans (hb.mono hK.below.size)).mono hB)) (Nat.le_trans hB (Nat.le_trans hK.below.size hb.size)) hcm hcm2 H0.out.2.2.2.1 (by omega) hnm
    obtain ⟨S1, hS1⟩ : ∃ S1, arr .u32 (keyS ks' 54).list = S1 := ⟨_, rfl⟩
    obtain ⟨R1, hR1⟩ : ∃ R1, arr .u8 (shaFrom (keyS ks' 54) 64 ms) = R1 := ⟨_, rfl⟩
    rw [hS1] at HK1 HE1
    rw [hR1] at HE1 hf1
    have H1 := Lib.hid (And.intro hS1 (And.intro hR1 hres))
    clear hK hres hS1 hR1 HN HS HR2 hF2
    go_wp2_with (first
      | (go_at_call 80; (with_reducible refine HK1.out.mono ?_); rintro e w1 ⟨rfl, hb1⟩)
      | (go_at_call 81; (with_reducible refine (HE1.out _ hb1).mono ?_); rintro e w2 ⟨rfl, hb2⟩)
      | (refine wpList_store_whole rfl 81 (.tmp 6) (.tmp 16) rfl rfl rfl (Whole.new _ _ _) Try.info81 hf1.1 (by rfl) hf1.2 ?_))
    obtain ⟨W, hW⟩ : ∃ W, (w2.alloc (.cells (arr .u8 z20) 81)).setRow w2.heap.size R1 = W := ⟨_, rfl⟩
    have hb3 : Below w2.heap.size w2 W := by rw [← hW]; exact below_row ((Below.refl _ w2).alloc (Nat.le_refl _) _) (Nat.le_refl _) _
    have hb4 : Below wc.heap.size wc W := (hb1.trans (hb2.mono hb1.size)).trans (hb3.mono (Nat.le_trans hb1.size hb2.size))
    have hin : Whole W w2.heap.size 81 (arr .u8 (shaFrom (keyS ks' 54) 64 ms)) := by rw [← hW, H1.out.2.1]; exact Whole.row (Whole.new _ _ _) _
    have hnew : New20 W w.heap.size := Whole.under HK.out.new hb4
    have HK2 : Hid (∀ V, Below W.heap.size W V → Calls Try.prog 80 #[.slice A n c, .int .u8 92] V fun e w' => e = .returned (.agg (arr .u32 (keyS ks' 92).list)) ∧ Below V.heap.size V w') :=
      Lib.hid fun V hV => keyed_any A n c ks' 92 wc.heap.size V (HK.out.bytes.below (hb4.trans (hV.mono hb4.size))) (Nat.le_trans hb4.size hV.size) HK.out.short HK.out.in8 (by omega)
    have hlen : (shaFrom (keyS ks' 54) 64 ms).length = 20 := by have := (fit20_from (keyS ks' 54) 64 ms).1; rwa [arr_size] at this
    have HE2 : Hid (∀ V, Below W.heap.size W V → Calls Try.prog 81 #[.agg (arr .u32 (keyS ks' 92).list), .int .u64 64, .slice (some ⟨w2.heap.size, 0, none⟩) 20 20] V fun e w' => e = .returned (.agg cs.toArray) ∧ Below V.heap.size V w') :=
      Lib.hid fun V hV => by
        have h1 := Bs.row (hin.under hV) 0 (Nat.zero_le _)
        rw [Nat.sub_zero, List.drop_zero, hlen] at h1
        have h2 := end_any (keyS ks' 92) 64 (some ⟨w2.heap.size, 0, none⟩) 20 20 _ _ V h1 (hin.under hV).lt (Nat.le_refl _) (by unfold maxLen; omega) (from_in8 _ _ _) (by omega) (by omega)
        rw [H1.out.2.2]
        exact h2
    rw [hW]
    obtain ⟨S2, hS2⟩ : ∃ S2, arr .u32 (keyS ks' 92).list = S2 := ⟨_, rfl⟩
    rw [hS2] at HK2 HE2
    have HX := Lib.hid (And.intro hnew (HK.out.below.trans (hb4.mono HK.out.below.size)))
    clear hin hnew hlen hb1 hb2 hb3 hb4 hW hS2 hf1 HK1 HE1 H1 hz
    have hu := Try.underlying81
    have hl20 := HF.out.1
    have hone := HF.out.2
    have hi : (Try.prog.info? 81).map (·.size) = some cs.length := by rw [Try.info81, hl20]
    have ht0 : W.there w.heap.size 0 20 := HX.out.1.there
    go_region_held3 (fun w' => w'.there w.heap.size 0 20) (first | assumption | (simp only [World.there_drew]; assumption) | exact World.there_setCells (by assumption) _ _ _) (first
      | (go_at_call 80; (with_reducible refine (HK2.out _ ((Below.refl _ W).drew)).mono ?_); rintro e w3 ⟨rfl, hb3'⟩; have hb3 : Below W.heap.size W w3 := ⟨hb3'.os, hb3'.tape, hb3'.output, hb3'.size, hb3'.block⟩; clear hb3'; have ht3 : w3.there w.heap.size 0 20 := New20.there (Whole.under HX.out.1 hb3))
      | (go_at_call 81; (with_reducible refine (HE2.out _ hb3).mono ?_); rintro e w4 ⟨rfl, hb4⟩; have ht4 : w4.there w.heap.size 0 20 := New20.there (Whole.under (Whole.under HX.out.1 hb3) hb4)))
    all_goals
      go_wp2
      have hN4 : New20 w4 w.heap.size := Whole.under (Whole.under HX.out.1 hb3) hb4
      have hb5 : Below w.heap.size w w4 := (HX.out.2.trans (hb3.mono HX.out.2.size)).trans (hb4.mono (Nat.le_trans HX.out.2.size hb3.size))
      refine bodyPost_ret (v := .agg cs.toArray) ?_ rfl ?_
      · exact ret_whole (g := w.heap.size) rfl rfl (Whole.cellsAllM hN4 cs (by rw [arr_size]; exact hl20)) Try.underlying81 Try.info81 (by simpa using hl20)
      · exact ⟨rfl, below_cellsM (Nat.le_refl _) _ _ _ hb5⟩

end Go.Proofs.Yteloaidnfcmadaa

namespace Go.Proofs.Yteloaidnfcmadaa
open Go.RowKit
set_option linter.unusedVariables false

def poly : Int := 3988292384
/-- One bit goes out. -/
def crc1 (x : Int) : Int := bits .xor .u32 (x / 2) (if x % 2 = 1 then 3988292384 else 0)
def crcN (x : Int) : Nat → Int
  | 0 => x
  | j + 1 => crc1 (crcN x j)
/-- The sum behind k bytes. -/
def crcL (xs : List Int) : Nat → Int
  | 0 => 4294967295
  | k + 1 => crcN (bits .xor .u32 (crcL xs k) (xs.getD k 0)) 8
def crc (xs : List Int) : Int := bits .xor .u32 IntKind.u32.max (crcL xs xs.length)

theorem xor_in (a b : Int) (ha : 0 ≤ a ∧ a < 4294967296) (hb : 0 ≤ b ∧ b < 4294967296) : 0 ≤ bits .xor .u32 a b ∧ bits .xor .u32 a b < 4294967296 := by
  rw [u32_xor a b ha.1 ha.2 hb.1 hb.2]
  have := Nat.xor_lt_two_pow (n := 32) (x := a.toNat) (y := b.toNat) (by omega) (by omega)
  omega
theorem crc1_in (x : Int) (h : 0 ≤ x ∧ x < 4294967296) : 0 ≤ crc1 x ∧ crc1 x < 4294967296 := by
  unfold crc1
  refine xor_in _ _ (by omega) ?_
  split <;> omega
theorem crcN_in (x : Int) (h : 0 ≤ x ∧ x < 4294967296) (j : Nat) : 0 ≤ crcN x j ∧ crcN x j < 4294967296 := by
  induction j with
  | zero => exact h
  | succ j ih => exact crc1_in _ ih
theorem crcL_in (xs : List Int) (hx : ∀ i, 0 ≤ xs.getD i 0 ∧ xs.getD i 0 < 256) (k : Nat) : 0 ≤ crcL xs k ∧ crcL xs k < 4294967296 := by
  induction k with
  | zero => show (0 : Int) ≤ 4294967295 ∧ (4294967295 : Int) < 4294967296; omega
  | succ k ih =>
    have := hx k
    exact crcN_in _ (xor_in _ _ ih (by omega)) 8

theorem and1 (x : Int) (h : 0 ≤ x ∧ x < 4294967296) : bits .and .u32 x 1 = x % 2 := by
  rw [u32_and x 1 h.1 h.2 (by omega) (by omega)]
  obtain ⟨n, rfl⟩ := Int.eq_ofNat_of_zero_le h.1
  simp [Nat.and_one_is_mod]
theorem step_prog (x : Int) (h : 0 ≤ x ∧ x < 4294967296) : bits .xor .u32 (x / 2) (bits .and .u32 3988292384 (-(bits .and .u32 x 1) % 4294967296)) = crc1 x := by
  rw [and1 x h, crc1]
  rcases (show x % 2 = 0 ∨ x % 2 = 1 by omega) with e | e
  · rw [e]
    rfl
  · rw [e]
    rfl
theorem step_ref (x : Int) (h : 0 ≤ x ∧ x < 4294967296) : bits .xor .u32 (x / 2) (3988292384 * (bits .and .u32 x 1) % 4294967296) = crc1 x := by
  rw [and1 x h, crc1]
  rcases (show x % 2 = 0 ∨ x % 2 = 1 by omega) with e | e
  · rw [e]
    rfl
  · rw [e]
    rfl

theorem ret_u32 {a b : Int} (h : a = b) : Ending.returned (.int .u32 a) = .returned (.int .u32 b) := by rw [h]

set_option maxHeartbeats 800000 in
set_option maxRecDepth 100000 in
theorem crc_any (A : Option Addr) (n cap : Nat) (xs : List Int) (B : Nat) (w : World) (h : Bs w B A n xs) (hx : ∀ i, 0 ≤ xs.getD i 0 ∧ xs.getD i 0 < 256) (hn : n ≤ 281474976710656) :
    Calls Try.prog 78 #[.slice A n cap] w fun e w' => e = .returned (.int .u32 (crc xs)) ∧ w = w' := by
  have HX := Lib.hid (And.intro h.1 hx)
  have HC := Lib.hid h.2
  clear h hx
  go_enter Try.func78, Try.ntmps78
  go_wp2
  go_loop [3, 8] (fun s3 s8 => ∃ k : Nat, k ≤ n ∧ s8 = .int .i64 k ∧ s3 = .int .u32 (crcL xs k)) (fun _ s8 => n - (intOf s8).toNat)
  case atStart => exact ⟨0, by omega, rfl, rfl⟩
  case round =>
    obtain ⟨k, hk, rfl, rfl⟩ := hrel
    by_cases hlt : k < n
    · obtain ⟨ad, rfl, _, hc⟩ := HC.out (by omega)
      have hcell := hc k hlt
      obtain ⟨hx0, hx1⟩ := HX.out.2 k
      have hci := crcL_in xs HX.out.2 k
      have hs : crcL xs (k + 1) = crcN (bits .xor .u32 (crcL xs k) (xs.getD k 0)) 8 := rfl
      have hxi := xor_in _ _ hci ⟨hx0, by omega⟩
      obtain ⟨x, hxe⟩ : ∃ x, xs.getD k 0 = x := ⟨_, rfl⟩
      obtain ⟨c, hce⟩ : ∃ c, crcL xs k = c := ⟨_, rfl⟩
      rw [hxe] at hcell hx0 hx1 hs hxi
      rw [hce] at hs hci hxi
      rw [hce]
      have H := Lib.hid (And.intro hs hxi)
      clear hc hs hxe hce hci hxi
      go_wp2
      go_loop [3, 16] (fun s3 s16 => ∃ j : Nat, j ≤ 8 ∧ s16 = .int .i64 j ∧ s3 = .int .u32 (crcN (bits .xor .u32 c x) j)) (fun _ s16 => 8 - (intOf s16).toNat)
      case atStart => exact ⟨0, by omega, rfl, rfl⟩
      case round =>
        obtain ⟨j, hj, rfl, rfl⟩ := hrel
        by_cases hlt2 : j < 8
        · have hq := step_prog (crcN (bits .xor .u32 c x) j) (crcN_in _ H.out.2 j)
          have e : crcN (bits .xor .u32 c x) (j + 1) = crc1 (crcN (bits .xor .u32 c x) j) := rfl
          rw [← e] at hq
          obtain ⟨y, hy⟩ : ∃ y, crcN (bits .xor .u32 c x) j = y := ⟨_, rfl⟩
          rw [hy] at hq
          rw [hy]
          have HQ := Lib.hid hq
          clear hq e hy
          go_wp2
          go_round
          case rel => exact ⟨j + 1, by omega, by go_num, by rw [HQ.out]⟩
          case measure => simp [intOf]; omega
        · obtain rfl : j = 8 := by omega
          rw [← H.out.1]
          rw [show ((8 : Nat) : Int) = 8 from rfl]
          obtain ⟨z, hz⟩ : ∃ z, crcL xs (k + 1) = z := ⟨_, rfl⟩
          rw [hz]
          have HZ := Lib.hid hz
          clear hz
          go_wp2
          go_round
          case rel => exact ⟨k + 1, by omega, by go_num, by rw [HZ.out]⟩
          case measure => simp [intOf]; omega
    · obtain rfl : k = n := by omega
      obtain ⟨c, hce⟩ : ∃ c, crcL xs k = c := ⟨_, rfl⟩
      rw [hce]
      have HE := Lib.hid hce
      clear hce
      go_wp2
      go_ret
      refine ⟨ret_u32 ?_, rfl⟩
      unfold crc
      rw [HX.out.1, HE.out]

set_option maxHeartbeats 800000 in
set_option maxRecDepth 100000 in
theorem rcrc_any (A : Option Addr) (n cap : Nat) (xs : List Int) (B : Nat) (w : World) (h : Bs w B A n xs) (hx : ∀ i, 0 ≤ xs.getD i 0 ∧ xs.getD i 0 < 256) (hn : n ≤ 281474976710656) :
    Calls Try.prog 33 #[.slice A n cap] w fun e w' => e = .returned (.int .u32 (crc xs)) ∧ w = w' := by
  have HX := Lib.hid (And.intro h.1 hx)
  have HC := Lib.hid h.2
  clear h hx
  go_enter Try.func33, Try.ntmps33
  go_wp2
  go_loop [3, 7] (fun s3 s8 => ∃ k : Nat, k ≤ n ∧ s8 = .int .i64 k ∧ s3 = .int .u32 (crcL xs k)) (fun _ s8 => n - (intOf s8).toNat)
  case atStart => exact ⟨0, by omega, rfl, rfl⟩
  case round =>
    obtain ⟨k, hk, rfl, rfl⟩ := hrel
    by_cases hlt : k < n
    · obtain ⟨ad, rfl, _, hc⟩ := HC.out (by omega)
      have hcell := hc k hlt
      obtain ⟨hx0, hx1⟩ := HX.out.2 k
      have hci := crcL_in xs HX.out.2 k
      have hs : crcL xs (k + 1) = crcN (bits .xor .u32 (crcL xs k) (xs.getD k 0)) 8 := rfl
      have hxi := xor_in _ _ hci ⟨hx0, by omega⟩
      obtain ⟨x, hxe⟩ : ∃ x, xs.getD k 0 = x := ⟨_, rfl⟩
      obtain ⟨c, hce⟩ : ∃ c, crcL xs k = c := ⟨_, rfl⟩
      rw [hxe] at hcell hx0 hx1 hs hxi
      rw [hce] at hs hci hxi
      rw [hce]
      have H := Lib.hid (And.intro hs hxi)
      clear hc hs hxe hce hci hxi
      go_wp2
      go_loop [3, 17] (fun s3 s16 => ∃ j : Nat, j ≤ 8 ∧ s16 = .int .i64 j ∧ s3 = .int .u32 (crcN (bits .xor .u32 c x) j)) (fun _ s16 => 8 - (intOf s16).toNat)
      case atStart => exact ⟨0, by omega, rfl, rfl⟩
      case round =>
        obtain ⟨j, hj, rfl, rfl⟩ := hrel
        by_cases hlt2 : j < 8
        · have hq := step_ref (crcN (bits .xor .u32 c x) j) (crcN_in _ H.out.2 j)
          have e : crcN (bits .xor .u32 c x) (j + 1) = crc1 (crcN (bits .xor .u32 c x) j) := rfl
          rw [← e] at hq
          obtain ⟨y, hy⟩ : ∃ y, crcN (bits .xor .u32 c x) j = y := ⟨_, rfl⟩
          rw [hy] at hq
          rw [hy]
          have HQ := Lib.hid hq
          clear hq e hy
          go_wp2
          go_round
          case rel => exact ⟨j + 1, by omega, by go_num, by rw [HQ.out]⟩
          case measure => simp [intOf]; omega
        · obtain rfl : j = 8 := by omega
          rw [← H.out.1]
          rw [show ((8 : Nat) : Int) = 8 from rfl]
          obtain ⟨z, hz⟩ : ∃ z, crcL xs (k + 1) = z := ⟨_, rfl⟩
          rw [hz]
          have HZ := Lib.hid hz
          clear hz
          go_wp2
          go_round
          case rel => exact ⟨k + 1, by omega, by go_num, by rw [HZ.out]⟩
          case measure => simp [intOf]; omega
    · obtain rfl : k = n := by omega
      obtain ⟨c, hce⟩ : ∃ c, crcL xs k = c := ⟨_, rfl⟩
      rw [hce]
      have HE := Lib.hid hce
      clear hce
      go_wp2
      go_ret
      refine ⟨ret_u32 ?_, rfl⟩
      unfold crc
      rw [HX.out.1, HE.out]

end Go.Proofs.Yteloaidnfcmadaa
