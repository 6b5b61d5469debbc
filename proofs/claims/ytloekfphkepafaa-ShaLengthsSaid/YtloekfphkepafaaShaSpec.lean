/- SHA-1, HMAC and CRC-32 as plain functions on lists of numbers, in the model's own operations. -/
import Derived.Laws.BitsAllLaws
import Derived.RowKit
namespace Go.Proofs.Ytloekfphkepafaa

def z80 : List Int := List.replicate 80 0
@[simp] theorem zlen80 : z80.length = 80 := rfl
def z64 : List Int := List.replicate 64 0
def z20 : List Int := List.replicate 20 0
def z5 : List Int := List.replicate 5 0

def rot1 (x : Int) : Int := bits .or .u32 (x * 2 % 4294967296) (x / 2147483648)
def rot5 (x : Int) : Int := bits .or .u32 (x * 32 % 4294967296) (x / 134217728)
def rot30 (x : Int) : Int := bits .or .u32 (x * 1073741824 % 4294967296) (x / 4)

/-- f and K of place t. -/
def mixF (t : Nat) (x y z : Int) : Int :=
  if t < 20 then bits .or .u32 (bits .and .u32 x y) (bits .and .u32 (bits .xor .u32 IntKind.u32.max x) z)
  else if t < 40 then bits .xor .u32 (bits .xor .u32 x y) z
  else if t < 60 then bits .or .u32 (bits .or .u32 (bits .and .u32 x y) (bits .and .u32 x z)) (bits .and .u32 y z)
  else bits .xor .u32 (bits .xor .u32 x y) z
def mixK (t : Nat) : Int := if t < 20 then 1518500249 else if t < 40 then 1859775393 else if t < 60 then 2400959708 else 3395469782

/-- The words behind k bytes of a block. -/
def pk (xs : List Int) : Nat → List Int
  | 0 => z80
  | k + 1 => (pk xs k).set (k / 4) (bits .or .u32 ((pk xs k).getD (k / 4) 0 * 256 % 4294967296) (xs.getD k 0))
@[simp] theorem pk_length (xs : List Int) (k : Nat) : (pk xs k).length = 80 := by
  induction k with
  | zero => rfl
  | succ k ih => simp [pk, ih]

/-- The words, behind n of those that come of the first 16. -/
def sched (ws : List Int) : Nat → List Int
  | 0 => ws
  | n + 1 => (sched ws n).set (n + 16) (rot1 (bits .xor .u32 (bits .xor .u32 (bits .xor .u32 ((sched ws n).getD (n + 13) 0) ((sched ws n).getD (n + 8) 0)) ((sched ws n).getD (n + 2) 0)) ((sched ws n).getD n 0)))
@[simp] theorem sched_length (ws : List Int) (n : Nat) : (sched ws n).length = ws.length := by
  induction n with
  | zero => rfl
  | succ k ih => simp [sched, ih]

/-- The state of SHA-1. -/
structure S5 where
  a : Int
  b : Int
  c : Int
  d : Int
  e : Int

/-- The state behind t places of a block. -/
def rnd (ws : List Int) (s : S5) : Nat → S5
  | 0 => s
  | t + 1 =>
    let r := rnd ws s t
    ⟨(rot5 r.a + mixF t r.b r.c r.d + r.e + mixK t + ws.getD t 0) % 4294967296, r.a, rot30 r.b, r.c, r.d⟩

def S5.add (s r : S5) : S5 := ⟨(s.a + r.a) % 4294967296, (s.b + r.b) % 4294967296, (s.c + r.c) % 4294967296, (s.d + r.d) % 4294967296, (s.e + r.e) % 4294967296⟩
def S5.list (s : S5) : List Int := [s.a, s.b, s.c, s.d, s.e]

/-- The state behind one block more: by its 80 words. -/
def blkW (s : S5) (ws : List Int) : S5 := s.add (rnd ws s 80)

/-- The state behind one block more: by its bytes, the first 64 of bs. -/
def blk (s : S5) (bs : List Int) : S5 := blkW s (sched (pk bs 64) 64)
/-- The state behind the first n blocks of bs. -/
def blks (s : S5) (bs : List Int) : Nat → S5
  | 0 => s
  | n + 1 => blk (blks s bs n) (bs.drop (64 * n))

def s0 : S5 := ⟨1732584193, 4023233417, 2562383102, 271733878, 3285377520⟩

/-- The bytes of a state, as they are written one word after the other. -/
def digN (s : S5) : Nat → List Int
  | 0 => z20
  | k + 1 => ((((digN s k).set (4 * k) (s.list.getD k 0 / 16777216 % 256)).set (4 * k + 1) (s.list.getD k 0 / 65536 % 256)).set (4 * k + 2) (s.list.getD k 0 / 256 % 256)).set (4 * k + 3) (s.list.getD k 0 % 256)
@[simp] theorem digN_length (s : S5) (k : Nat) : (digN s k).length = 20 := by
  induction k with
  | zero => rfl
  | succ k ih => simp [digN, ih]
def dig (s : S5) : List Int := digN s 5

/-- The 8 bytes of a number. -/
def be8 (n : Nat) : List Int := [((n / 256 ^ 7 % 256 : Nat) : Int), ((n / 256 ^ 6 % 256 : Nat) : Int), ((n / 256 ^ 5 % 256 : Nat) : Int), ((n / 256 ^ 4 % 256 : Nat) : Int), ((n / 256 ^ 3 % 256 : Nat) : Int), ((n / 256 ^ 2 % 256 : Nat) : Int), ((n / 256 % 256 : Nat) : Int), ((n % 256 : Nat) : Int)]

/-- What stands behind a message of n bytes, of which its number of bytes is total. -/
def padT (n total : Nat) : List Int := 128 :: (List.replicate ((119 - n % 64) % 64) 0 ++ be8 (total * 8))

/-- The digest of what is left of a message: xs, behind ahead bytes, which made the state s. -/
def shaFrom (s : S5) (ahead : Nat) (xs : List Int) : List Int :=
  dig (blks s (xs ++ padT xs.length (ahead + xs.length)) ((xs.length + 9 + (119 - xs.length % 64) % 64) / 64))
def sha (xs : List Int) : List Int := shaFrom s0 0 xs

/-- The last blocks, behind j bytes of the number's 8, the last one first. -/
def tlN (room : Nat) (xs : List Int) (n : Nat) : Nat → List Int
  | 0 => (xs ++ List.replicate (room - xs.length) 0).set xs.length 128
  | j + 1 => (tlN room xs n j).set (room - 1 - j) ((n / 256 ^ j % 256 : Nat) : Int)
theorem tlN_length (room : Nat) (xs : List Int) (n j : Nat) (h : xs.length ≤ room) : (tlN room xs n j).length = room := by
  induction j with
  | zero => simp [tlN]; omega
  | succ j ih => simp [tlN, ih]

/-- The first block of a sum of HMAC: the key, noughts behind it, and the mask in each byte. -/
def keyB (ks : List Int) (mask : Int) : Nat → List Int
  | 0 => ks ++ List.replicate (64 - ks.length) 0
  | i + 1 => (keyB ks mask i).set i (bits .xor .u8 ((keyB ks mask i).getD i 0) mask)
theorem keyB_length (ks : List Int) (mask : Int) (i : Nat) (h : ks.length ≤ 64) : (keyB ks mask i).length = 64 := by
  induction i with
  | zero => simp [keyB]; omega
  | succ i ih => simp [keyB, ih]
def keyS (ks : List Int) (mask : Int) : S5 := blk s0 (keyB ks mask 64)
def macOf (ks msg : List Int) : List Int := shaFrom (keyS ks 92) 64 (shaFrom (keyS ks 54) 64 msg)
def mac (key msg : List Int) : List Int := if 64 < key.length then macOf (sha key) msg else macOf key msg

end Go.Proofs.Ytloekfphkepafaa
