/- Numbers and pieces of text, as the program reads them. -/
import Derived.Test.YtmlapbadgjhhdaaGreatDoorAtLeaf
namespace Go.Proofs.YtmlapbadgjhhdaaGreatDoor
open Go.RowKit
set_option linter.unusedVariables false
set_option linter.unusedSimpArgs false

/-! What the program's numbers are, of any text. -/
def numP (l : Tx) : Int := match Lib.atoiAll l with
  | .ok v => v
  | .syntax => 0
  | .range => Lib.atoiSat l
def srcP (l : Tx) : Nat := match Lib.parseUintB 32 l with
  | .ok u => u
  | .syntax => 0
  | .range => 4294967295
/-- The digits' value, from left to right. -/
def valD (acc : Nat) : Tx → Nat
  | [] => acc
  | c :: r => valD (acc * 10 + (c.toNat - 48)) r
theorem valD_ge (l : Tx) : ∀ acc, acc ≤ valD acc l := by
  induction l with
  | nil => exact fun acc => Nat.le_refl _
  | cons c r ih =>
    intro acc
    have := ih (acc * 10 + (c.toNat - 48))
    show acc ≤ valD (acc * 10 + (c.toNat - 48)) r
    omega
theorem valD_append (a b : Tx) : ∀ acc, valD acc (a ++ b) = valD (valD acc a) b := by
  induction a with
  | nil => exact fun acc => rfl
  | cons c r ih => exact fun acc => ih _
theorem valD_dec (n : Nat) : valD 0 (dec n) = n := by
  induction n using Nat.strongRecOn with
  | _ n ih =>
    unfold dec
    split
    · next h =>
      show 0 * 10 + ((UInt8.ofNat (48 + n)).toNat - 48) = n
      rw [UInt8.toNat_ofNat']
      omega
    · next h =>
      rw [valD_append, ih (n / 10) (by omega)]
      show n / 10 * 10 + ((UInt8.ofNat (48 + n % 10)).toNat - 48) = n
      rw [UInt8.toNat_ofNat']
      omega
theorem parse10_ok : ∀ (l : Tx) (acc : Nat), (∀ c ∈ l, 48 ≤ c.toNat ∧ c.toNat ≤ 57) → valD acc l < 1000000000000000000 → Lib.parseUint10 acc l = .ok (valD acc l)
  | [], acc, _, _ => rfl
  | c :: r, acc, h, hv => by
    have hc := h c (by simp)
    have hv' : valD (acc * 10 + (c.toNat - 48)) r < 1000000000000000000 := hv
    have hg := valD_ge r (acc * 10 + (c.toNat - 48))
    unfold Lib.parseUint10
    rw [if_pos hc, if_neg (by omega), if_neg (by omega)]
    exact parse10_ok r _ (fun d hd => h d (by simp [hd])) hv'
theorem parseM_ok (M : Nat) : ∀ (l : Tx) (acc : Nat), (∀ c ∈ l, 48 ≤ c.toNat ∧ c.toNat ≤ 57) → valD acc l ≤ M → M < 1000000000000000000 → Lib.parseUintM M acc l = .ok (valD acc l)
  | [], acc, _, _, _ => rfl
  | c :: r, acc, h, hv, hM => by
    have hc := h c (by simp)
    have hv' : valD (acc * 10 + (c.toNat - 48)) r ≤ M := hv
    have hg := valD_ge r (acc * 10 + (c.toNat - 48))
    unfold Lib.parseUintM
    rw [if_pos hc, if_neg (by omega), if_neg (by omega)]
    exact parseM_ok M r _ (fun d hd => h d (by simp [hd])) hv' hM
theorem numP_dec {n : Nat} (h : n ≤ 1000000) : numP (dec n) = n := by
  have hd := dec_digit n
  have h1 : Lib.atoiAll (dec n) = .ok (n : Int) := by
    have hp : Lib.parseMag (dec n) = .ok n := by
      unfold Lib.parseMag
      rw [if_neg (dec_ne n), parse10_ok _ 0 hd (by rw [valD_dec]; omega), valD_dec]
    cases hl : dec n with
    | nil => exact (dec_ne n hl).elim
    | cons c r =>
      rw [hl] at hp hd
      have hc := hd c (by simp)
      unfold Lib.atoiAll
      simp only
      rw [if_neg (by omega), hp]
      simp only
      rw [if_neg (by omega), if_neg (by omega), if_neg (by omega)]
  unfold numP
  rw [h1]
theorem srcP_dec {n : Nat} (h : n < 4294967296) : srcP (dec n) = n := by
  have h1 : Lib.parseUintB 32 (dec n) = .ok n := by
    unfold Lib.parseUintB
    rw [if_neg (dec_ne n), parseM_ok _ _ 0 (dec_digit n) (by rw [valD_dec]; omega) (by decide), valD_dec]
  unfold srcP
  rw [h1]
theorem srcP_lt (l : Tx) : srcP l < 4294967296 := by
  unfold srcP
  cases h : Lib.parseUintB 32 l with
  | ok u =>
    have := Lib.parseUintB_le h
    show u < _
    omega
  | «syntax» => decide
  | range => decide
/-! What lies besides the tables: the library's two errors. -/
structure EnvR (w : World) : Prop where
  env : Env w
  syn : ∃ ev, w.cell? ⟨4, 0, none⟩ = some ev ∧ (ev = .nilIface ∨ ∃ te pe, ev = .iface te pe)
  rng : ∃ ev, w.cell? ⟨5, 0, none⟩ = some ev ∧ (ev = .nilIface ∨ ∃ te pe, ev = .iface te pe)
theorem EnvR.under {w w' : World} (h : EnvR w) (hb : Below w.heap.size w w') : EnvR w' := by
  obtain ⟨e1, h1, k1⟩ := h.syn
  obtain ⟨e2, h2, k2⟩ := h.rng
  exact ⟨h.env.under hb, ⟨e1, (hb.cell (p := ⟨4, 0, Option.none⟩) (block_lt_of_cell h1)).trans h1, k1⟩, ⟨e2, (hb.cell (p := ⟨5, 0, Option.none⟩) (block_lt_of_cell h2)).trans h2, k2⟩⟩
theorem bytes_below (w : World) (t : ByteArray) : Below w.heap.size w (Lib.bytesWorld w 5 t) := Go.Joins.below_bytesWorld _ w _ t (Nat.le_refl _)
set_option maxHeartbeats 800000 in
theorem atoi_any (s : ByteArray) (w : World) (hE : EnvR w) (hs : s.size ≤ 281474976710656) : Calls Tryz.prog 98 #[.string s] w fun e w' => (∃ er, e = .returned (.tuple #[.int .i64 (numP (tx s)), er])) ∧ Below w.heap.size w w' := by
  cases h : Lib.atoiAll s.data.toList with
  | ok v =>
    have hn : numP (tx s) = v := by
      show (match Lib.atoiAll s.data.toList with | .ok v => v | .syntax => 0 | .range => Lib.atoiSat s.data.toList) = v
      rw [h]
    rw [hn]
    refine (Tryz.strconv_Atoi_ok s (by omega) v h w).mono fun e w' hh => ⟨⟨_, hh.1⟩, ?_⟩
    rcases hh.2 with rfl | ⟨t, rfl⟩
    · exact Below.refl _ _
    · exact bytes_below w t
  | «syntax» =>
    have hn : numP (tx s) = 0 := by
      show (match Lib.atoiAll s.data.toList with | .ok v => v | .syntax => 0 | .range => Lib.atoiSat s.data.toList) = 0
      rw [h]
    rw [hn]
    obtain ⟨ev, hv, hev⟩ := hE.syn
    exact (Tryz.strconv_Atoi_syntax s hs h ev w hv hev).mono fun e w' ⟨N, h1, _, _, h4⟩ => ⟨⟨_, h1⟩, h4⟩
  | range =>
    have hn : numP (tx s) = Lib.atoiSat s.data.toList := by
      show (match Lib.atoiAll s.data.toList with | .ok v => v | .syntax => 0 | .range => Lib.atoiSat s.data.toList) = Lib.atoiSat s.data.toList
      rw [h]
    rw [hn]
    obtain ⟨ev, hv, hev⟩ := hE.rng
    exact (Tryz.strconv_Atoi_range s hs h ev w hv hev).mono fun e w' ⟨N, h1, _, _, h4⟩ => ⟨⟨_, h1⟩, h4⟩
set_option maxHeartbeats 800000 in
theorem parseU_any (s : ByteArray) (w : World) (hE : EnvR w) (hs : s.size ≤ 281474976710656) : Calls Tryz.prog 131 #[.string s, .int .i64 10, .int .i64 32] w fun e w' => (∃ er, e = .returned (.tuple #[.int .u64 (srcP (tx s) : Nat), er])) ∧ Below w.heap.size w w' := by
  cases h : Lib.parseUintB 32 s.data.toList with
  | ok v =>
    have hn : srcP (tx s) = v := by
      show (match Lib.parseUintB 32 s.data.toList with | .ok v => v | .syntax => 0 | .range => 4294967295) = v
      rw [h]
    rw [hn]
    refine (Tryz.strconv_ParseUint_10_at32_ok s (by omega) v h w).mono fun e w' hh => ⟨⟨_, hh.1⟩, ?_⟩
    rcases hh.2 with rfl | rfl
    · exact Below.refl _ _
    · exact bytes_below w s
  | «syntax» =>
    have hn : srcP (tx s) = 0 := by
      show (match Lib.parseUintB 32 s.data.toList with | .ok v => v | .syntax => 0 | .range => 4294967295) = 0
      rw [h]
    rw [hn]
    obtain ⟨ev, hv, hev⟩ := hE.syn
    exact (Tryz.strconv_ParseUint_10_at32_syntax s hs h ev w hv hev).mono fun e w' ⟨N, h1, _, _, h4⟩ => ⟨⟨_, h1⟩, h4⟩
  | range =>
    have hn : srcP (tx s) = 4294967295 := by
      show (match Lib.parseUintB 32 s.data.toList with | .ok v => v | .syntax => 0 | .range => 4294967295) = 4294967295
      rw [h]
    rw [hn]
    obtain ⟨ev, hv, hev⟩ := hE.rng
    exact (Tryz.strconv_ParseUint_10_at32_range s hs h ev w hv hev).mono fun e w' ⟨N, h1, _, _, h4⟩ => ⟨⟨_, h1⟩, h4⟩
set_option maxHeartbeats 800000 in
theorem number_any (s : ByteArray) (w : World) (hE : EnvR w) (hs : s.size ≤ 281474976710656) : Calls Tryz.prog 71 #[.string s] w fun e w' => e = .returned (.int .i64 (numP (tx s))) ∧ Below w.heap.size w w' := by
  have HC := Lib.hid (atoi_any s w hE hs)
  generalize numP (tx s) = n at *
  go_enter Tryz.func71, Tryz.ntmps71
  go_wp2_with (go_at_call 98; (with_reducible refine HC.out.mono ?_); rintro e w1 ⟨⟨er, rfl⟩, hb1⟩)
  go_ret
  exact ⟨rfl, hb1⟩
end Go.Proofs.YtmlapbadgjhhdaaGreatDoor
