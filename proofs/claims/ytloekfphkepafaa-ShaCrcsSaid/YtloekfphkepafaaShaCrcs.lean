/- The law ShaCrcs, walked. -/
import Derived.Test.YtloekfphkepafaaShaAwake
import Derived.Test.YtloekfphkepafaaShaCrcLin
import Derived.Test.YtloekfphkepafaaBytes
namespace Go.Proofs.Ytloekfphkepafaa
open Go.RowKit
set_option linter.unusedVariables false

/-- Three rows of n bytes, filled up to k. -/
structure Three (w : World) (f g h : Nat → Int) (n k kz : Nat) (gx gy gz : Nat) (wr : World) : Prop where
  x : Whole wr gx 5 (arr .u8 (fillN f n k))
  y : Whole wr gy 5 (arr .u8 (fillN g n k))
  z : Whole wr gz 5 (arr .u8 (fillN h n kz))
  xy : gx ≠ gy
  xz : gx ≠ gz
  yz : gy ≠ gz
  bx : w.heap.size ≤ gx
  by' : w.heap.size ≤ gy
  bz : w.heap.size ≤ gz
  below : Below w.heap.size w wr

theorem Three.xy_next {w : World} {f g h : Nat → Int} {n k kz gx gy gz : Nat} {wr : World} (H : Three w f g h n k kz gx gy gz wr) (hk : k < n) :
    Three w f g h n (k + 1) kz gx gy gz ((wr.setCell ⟨gx, k, none⟩ (.int .u8 (f k))).setCell ⟨gy, k, none⟩ (.int .u8 (g k))) := by
  refine ⟨?_, ?_, (H.z.far (by simp [Ne.symm H.xz]) _).far (by simp [Ne.symm H.yz]) _, H.xy, H.xz, H.yz, H.bx, H.by', H.bz, (H.below.setCell H.bx _).setCell H.by' _⟩
  · have := H.x.put k (f k)
    rw [fillN_set f n k hk] at this
    exact this.far (by simp [H.xy]) _
  · have := (H.y.far (p := ⟨gx, k, none⟩) (by simp [Ne.symm H.xy]) (.int .u8 (f k))).put k (g k)
    rw [fillN_set g n k hk] at this
    exact this
theorem Three.z_next {w : World} {f g h : Nat → Int} {n k kz gx gy gz : Nat} {wr : World} (H : Three w f g h n k kz gx gy gz wr) (hk : kz < n) :
    Three w f g h n k (kz + 1) gx gy gz (wr.setCell ⟨gz, kz, none⟩ (.int .u8 (h kz))) := by
  refine ⟨H.x.far (by simp [H.xz]) _, H.y.far (by simp [H.yz]) _, ?_, H.xy, H.xz, H.yz, H.bx, H.by', H.bz, H.below.setCell H.bz _⟩
  have := H.z.put kz (h kz)
  rwa [fillN_set h n kz hk] at this
theorem Three.drew {w : World} {f g h : Nat → Int} {n k kz gx gy gz : Nat} {wr : World} (H : Three w f g h n k kz gx gy gz wr) : Three w f g h n k kz gx gy gz wr.drew :=
  ⟨H.x, H.y, H.z, H.xy, H.xz, H.yz, H.bx, H.by', H.bz, H.below.drew⟩

/-- Three rows that were just made, whichever is which. -/
theorem three_new {w w1 : World} (hb : Below w.heap.size w w1) (f g h : Nat → Int) (n : Nat) {X : Array Value} (hX : arr .u8 (List.replicate n 0) = X) {i j k : Nat} (hi : i < 3) (hj : j < 3) (hk : k < 3) (hij : i ≠ j) (hik : i ≠ k) (hjk : j ≠ k) :
    Three w f g h n 0 0 (w1.heap.size + i) (w1.heap.size + j) (w1.heap.size + k) (((w1.alloc (.cells X 5)).alloc (.cells X 5)).alloc (.cells X 5)).drew := by
  have h0 : Whole (((w1.alloc (.cells X 5)).alloc (.cells X 5)).alloc (.cells X 5)) w1.heap.size 5 X := ((Whole.new _ _ _).alloc _).alloc _
  have h1 : Whole (((w1.alloc (.cells X 5)).alloc (.cells X 5)).alloc (.cells X 5)) (w1.heap.size + 1) 5 X := (Whole.new2 _ _ _ _).alloc _
  have h2 : Whole (((w1.alloc (.cells X 5)).alloc (.cells X 5)).alloc (.cells X 5)) (w1.heap.size + 2) 5 X := by
    have := Whole.new2 (w1.alloc (.cells X 5)) (.cells X 5) 5 X
    rw [World.size_alloc] at this
    exact this
  have hz := hb.size
  have hB : Below w.heap.size w (((w1.alloc (.cells X 5)).alloc (.cells X 5)).alloc (.cells X 5)).drew := (((hb.alloc hz _).alloc (by simp; omega) _).alloc (by simp; omega) _).drew
  have all : ∀ q, q < 3 → ∀ F : Nat → Int, Whole (((w1.alloc (.cells X 5)).alloc (.cells X 5)).alloc (.cells X 5)).drew (w1.heap.size + q) 5 (arr .u8 (fillN F n 0)) := by
    intro q hq F
    rw [fillN_zero, hX]
    match q, hq with
    | 0, _ => exact h0
    | 1, _ => exact h1
    | 2, _ => exact h2
  exact ⟨all i hi f, all j hj g, all k hk h, by omega, by omega, by omega, by omega, by omega, by omega, hB⟩

theorem fill_in8 (f : Nat → Int) (hf : ∀ i, 0 ≤ f i ∧ f i < 256) (n k : Nat) (i : Nat) : 0 ≤ (fillN f n k).getD i 0 ∧ (fillN f n k).getD i 0 < 256 := by
  by_cases hi : i < n
  · rw [fillN_getD f n k i hi]
    have := hf i
    split <;> omega
  · rw [getD_out _ _ (by rw [fillN_length]; omega)]
    omega
theorem xor8_in (a b : Int) (ha : 0 ≤ a ∧ a < 256) (hb : 0 ≤ b ∧ b < 256) : 0 ≤ bits .xor .u8 a b ∧ bits .xor .u8 a b < 256 := by
  rw [u8_xor a b ha.1 ha.2 hb.1 hb.2]
  have := Nat.xor_lt_two_pow (n := 8) (x := a.toNat) (y := b.toNat) (by omega) (by omega)
  omega
theorem crc_fill (n : Nat) (us bs : List Int) (hu : ∀ i, 0 ≤ us.getD i 0 ∧ us.getD i 0 < 256) (hb : ∀ i, 0 ≤ bs.getD i 0 ∧ bs.getD i 0 < 256) :
    crc (fillN (fun i => bits .xor .u8 (us.getD i 0) (bs.getD i 0)) n n) = bits .xor .u32 (bits .xor .u32 (crc (fillN (fun i => us.getD i 0) n n)) (crc (fillN (fun i => bs.getD i 0) n n))) (crc (List.replicate n 0)) := by
  refine crc_lin n (fun i => (us.getD i 0).toNat) (fun i => (bs.getD i 0).toNat) (fun i => by have := hu i; omega) (fun i => by have := hb i; omega) _ _ _ _ (by simp) (by simp) (by simp) (by simp) (fun i hi => ?_) (fun i hi => ?_) (fun i hi => ?_) (fun i hi => getD_zeros _ _)
  · rw [fillN_getD _ n n i hi, if_pos hi]
    have := hu i
    omega
  · rw [fillN_getD _ n n i hi, if_pos hi]
    have := hb i
    omega
  · rw [fillN_getD _ n n i hi, if_pos hi]
    have h1 := hu i
    have h2 := hb i
    exact u8_xor _ _ h1.1 h1.2 h2.1 h2.2
theorem crc_row {W : World} {g n : Nat} {xs : List Int} (h : Whole W g 5 (arr .u8 (xs))) (hx : ∀ i, 0 ≤ xs.getD i 0 ∧ xs.getD i 0 < 256) (hn : xs.length ≤ 281474976710656) (hl : xs.length = n := by simp) :
    Calls Try.prog 11 #[.slice (some ⟨g, 0, none⟩) n n] W fun e w' => e = .returned (.int .u32 (crc xs)) ∧ W = w' := by
  have hB := Bs.row h 0 (Nat.zero_le _)
  rw [Nat.sub_zero, List.drop_zero, hl] at hB
  exact crc_any _ n n xs (g + 1) W hB hx (by omega)
theorem crc_zeros (V : World) (n : Nat) (hn : n ≤ 281474976710656) :
    Calls Try.prog 11 #[.slice (some ⟨V.heap.size, 0, none⟩) n n] (V.alloc (.cells (arr .u8 (List.replicate n 0)) 5)) fun e w' => e = .returned (.int .u32 (crc (List.replicate n 0))) ∧ V.alloc (.cells (arr .u8 (List.replicate n 0)) 5) = w' :=
  crc_row (Whole.new _ _ _) (fun i => by rw [getD_zeros]; omega) (by simpa using hn)

theorem crc_zeros_drew (V : World) (n : Nat) (hn : n ≤ 281474976710656) :
    Calls Try.prog 11 #[.slice (some ⟨V.heap.size, 0, none⟩) n n] (V.alloc (.cells (arr .u8 (List.replicate n 0)) 5)).drew fun e w' => e = .returned (.int .u32 (crc (List.replicate n 0))) ∧ (V.alloc (.cells (arr .u8 (List.replicate n 0)) 5)).drew = w' :=
  crc_row (Whole.drew (Whole.new _ _ _)) (fun i => by rw [getD_zeros]; omega) (by simpa using hn)

set_option maxHeartbeats 1600000 in
set_option maxRecDepth 100000 in
theorem crcs_walk (Aa Ab : Option Addr) (na ca nb cb : Nat) (us bs : List Int) (w : World) (ha : In8 w Aa na ca us) (hb : In8 w Ab nb cb bs) (ra : na ≤ 140737488351232) (rb : nb ≤ 140737488351232) :
    Calls Try.prog 6 #[.slice Aa na ca, .slice Ab nb cb] w fun e w' => e = .returned (.bool true) ∧ Below w.heap.size w w' := by
  obtain ⟨n, hn⟩ : ∃ n, min na nb = n := ⟨_, rfl⟩
  have hna : n ≤ na := by omega
  have hnb : n ≤ nb := by omega
  have HN := Lib.hid hn
  have HA := Lib.hid ha
  have HB := Lib.hid hb
  have hmk := make_bytes n (by omega)
  obtain ⟨X, hX⟩ : ∃ X, arr .u8 (List.replicate n 0) = X := ⟨_, rfl⟩
  rw [hX] at hmk
  have HX := Lib.hid hX
  clear ha hb hn hX
  go_enter Try.func6, Try.ntmps6
  go_upto_region 3 with (go_at_call 8; (with_reducible refine (awake_yes _).mono ?_); rintro e w1 ⟨rfl, hb1⟩)
  go_cut [5] from 12 (fun s5 wc => s5 = .int .i64 n ∧ w1 = wc)
  case first =>
    go_wp2
    all_goals go_meet
    all_goals
      have hq := HN.out
      refine ⟨?_, rfl⟩
      congr 1
      omega
  case rest =>
    obtain ⟨rfl, rfl⟩ := hcut
    go_upto_region 4 with fail
    go_cut [6, 7, 8] from 17 (fun s6 s7 s8 wc => ∃ gx gy gz, s6 = .slice (some ⟨gx, 0, none⟩) n n ∧ s7 = .slice (some ⟨gy, 0, none⟩) n n ∧ s8 = .slice (some ⟨gz, 0, none⟩) n n ∧
      Three w (fun i => us.getD i 0) (fun i => bs.getD i 0) (fun i => bits .xor .u8 (us.getD i 0) (bs.getD i 0)) n 0 0 gx gy gz wc)
    case first =>
      go_region
      all_goals (go_wp2; go_meet)
      all_goals first
        | exact ⟨_, _, _, rfl, rfl, rfl, three_new (i := 0) (j := 1) (k := 2) hb1 _ _ _ n HX.out (by omega) (by omega) (by omega) (by omega) (by omega) (by omega)⟩
        | exact ⟨_, _, _, rfl, rfl, rfl, three_new (i := 0) (j := 2) (k := 1) hb1 _ _ _ n HX.out (by omega) (by omega) (by omega) (by omega) (by omega) (by omega)⟩
        | exact ⟨_, _, _, rfl, rfl, rfl, three_new (i := 1) (j := 0) (k := 2) hb1 _ _ _ n HX.out (by omega) (by omega) (by omega) (by omega) (by omega) (by omega)⟩
        | exact ⟨_, _, _, rfl, rfl, rfl, three_new (i := 1) (j := 2) (k := 0) hb1 _ _ _ n HX.out (by omega) (by omega) (by omega) (by omega) (by omega) (by omega)⟩
        | exact ⟨_, _, _, rfl, rfl, rfl, three_new (i := 2) (j := 0) (k := 1) hb1 _ _ _ n HX.out (by omega) (by omega) (by omega) (by omega) (by omega) (by omega)⟩
        | exact ⟨_, _, _, rfl, rfl, rfl, three_new (i := 2) (j := 1) (k := 0) hb1 _ _ _ n HX.out (by omega) (by omega) (by omega) (by omega) (by omega) (by omega)⟩
    case rest =>
      obtain ⟨gx, gy, gz, rfl, rfl, rfl, hT⟩ := hcut
      have H3 := Lib.hid hT
      clear hT hb1
      go_wp2_with fail
      go_loopw [24] (fun s24 wr => ∃ k : Nat, k ≤ n ∧ s24 = .int .i64 k ∧ Three w (fun i => us.getD i 0) (fun i => bs.getD i 0) (fun i => bits .xor .u8 (us.getD i 0) (bs.getD i 0)) n k k gx gy gz wr) (fun s24 _ => n - (intOf s24).toNat)
      case atStart => exact ⟨0, by omega, rfl, H3.out⟩
      case round =>
        obtain ⟨k, hk, rfl, hT⟩ := hrel
        by_cases hlt : k < n
        · obtain ⟨ad, rfl, hba, hca⟩ := HA.out.bytes.2 (by omega)
          obtain ⟨bd, rfl, hbb, hcb⟩ := HB.out.bytes.2 (by omega)
          have qa : ∀ W, Below w.heap.size w W → W.cell? (ad.add k) = some (.int .u8 (us.getD k 0)) := fun W hW => (hW.cell (p := ad.add k) (by rw [add_block]; exact hba)).trans (hca k (by omega))
          have qb : ∀ W, Below w.heap.size w W → W.cell? (bd.add k) = some (.int .u8 (bs.getD k 0)) := fun W hW => (hW.cell (p := bd.add k) (by rw [add_block]; exact hbb)).trans (hcb k (by omega))
          have ea := qa _ hT.below
          have eb := qb _ hT.below
          have x0 := hT.x.at_ (i := k) (by simpa using hlt)
          have y0 := hT.y.at_ (i := k) (by simpa using hlt)
          have z0 := hT.z.at_ (i := k) (by simpa using hlt)
          have fx := hT.x.frz k
          have fy := hT.y.frz k
          have fz := hT.z.frz k
          have n1 := hT.xy
          have n2 := hT.xz
          have n3 := hT.yz
          have hka : (k : Int) < (na : Int) := by omega
          have hkb : (k : Int) < (nb : Int) := by omega
          have hkn : (k : Int) < (n : Int) := by omega
          have nx := hT.xy_next hlt
          have nz := fun W (hW : Three w (fun i => us.getD i 0) (fun i => bs.getD i 0) (fun i => bits .xor .u8 (us.getD i 0) (bs.getD i 0)) n (k + 1) k gx gy gz W) => hW.z_next hlt
          have bla := hba
          have blb := hbb
          have H5 := Lib.hid (And.intro hT (And.intro nx (And.intro nz (And.intro qa qb))))
          clear hT nx nz qa qb hca hcb
          go_upto_region 8 with fail
          go_cut [24] from 27 to 40 (fun s24 wc => s24 = .int .i64 k ∧ Three w (fun i => us.getD i 0) (fun i => bs.getD i 0) (fun i => bits .xor .u8 (us.getD i 0) (bs.getD i 0)) n (k + 1) k gx gy gz wc)
          case first =>
            go_region
            all_goals (go_wp2; go_meet)
            all_goals exact ⟨rfl, H5.out.2.1.drew⟩
          case rest =>
            obtain ⟨rfl, hT2⟩ := hcut
            have ea2 := H5.out.2.2.2.1 _ hT2.below
            have eb2 := H5.out.2.2.2.2 _ hT2.below
            have z2 := hT2.z.at_ (i := k) (by simpa using hlt)
            have fz2 := hT2.z.frz k
            have H6 := Lib.hid (H5.out.2.2.1 wc hT2)
            clear hT2 ea eb x0 y0 z0 fx fy fz H5
            go_upto_region 9 with fail
            go_region
            all_goals go_wp2_with fail
            all_goals go_roundw
            case rel => exact ⟨k + 1, by omega, by go_num, H6.out.drew⟩
            case measure => simp [intOf]; omega
        · obtain rfl : k = n := by omega
          have hla := HA.out.bytes.1
          have hlb := HB.out.bytes.1
          have hXl : X = arr .u8 (List.replicate k 0) := HX.out.symm
          have hQ : (crc (fillN (fun i => bits .xor .u8 (us.getD i 0) (bs.getD i 0)) k k) == bits .xor .u32 (bits .xor .u32 (crc (fillN (fun i => us.getD i 0) k k)) (crc (fillN (fun i => bs.getD i 0) k k))) (crc (List.replicate k 0))) = true := by
            rw [beq_iff_eq]
            exact crc_fill k us bs HA.out.in8 HB.out.in8
          have HZ : Hid (∀ W, Below wr.heap.size wr W → Calls Try.prog 11 #[.slice (some ⟨gz, 0, none⟩) k k] W fun e w' => e = .returned (.int .u32 (crc (fillN (fun i => bits .xor .u8 (us.getD i 0) (bs.getD i 0)) k k))) ∧ W = w') :=
            Lib.hid fun W hW => crc_row (hT.z.under hW) (fun i => fill_in8 _ (fun i => xor8_in _ _ (HA.out.in8 i) (HB.out.in8 i)) k k i) (by rw [fillN_length]; omega)
          have HX1 : Hid (∀ W, Below wr.heap.size wr W → Calls Try.prog 11 #[.slice (some ⟨gx, 0, none⟩) k k] W fun e w' => e = .returned (.int .u32 (crc (fillN (fun i => us.getD i 0) k k))) ∧ W = w') :=
            Lib.hid fun W hW => crc_row (hT.x.under hW) (fun i => fill_in8 _ HA.out.in8 k k i) (by rw [fillN_length]; omega)
          have HY : Hid (∀ W, Below wr.heap.size wr W → Calls Try.prog 11 #[.slice (some ⟨gy, 0, none⟩) k k] W fun e w' => e = .returned (.int .u32 (crc (fillN (fun i => bs.getD i 0) k k))) ∧ W = w') :=
            Lib.hid fun W hW => crc_row (hT.y.under hW) (fun i => fill_in8 _ HB.out.in8 k k i) (by rw [fillN_length]; omega)
          have HO : Hid (∀ (V : World) (g : Nat), g = V.heap.size → ∀ W, W = V.alloc (.cells X 5) → Calls Try.prog 11 #[.slice (some ⟨g, 0, none⟩) k k] W fun e w' => e = .returned (.int .u32 (crc (List.replicate k 0))) ∧ W = w') :=
            Lib.hid fun V g hg W hW => by
              subst hg hW
              rw [hXl]
              exact crc_zeros V k (by omega)
          have HO2 : Hid (∀ (V : World) (g : Nat), g = V.heap.size → Calls Try.prog 11 #[.slice (some ⟨g, 0, none⟩) k k] (V.alloc (.cells X 5)).drew fun e w' => e = .returned (.int .u32 (crc (List.replicate k 0))) ∧ (V.alloc (.cells X 5)).drew = w') :=
            Lib.hid fun V g hg => by
              subst hg
              rw [hXl]
              exact crc_zeros_drew V k (by omega)
          obtain ⟨cz, hcz⟩ : ∃ c, crc (fillN (fun i => bits .xor .u8 (us.getD i 0) (bs.getD i 0)) k k) = c := ⟨_, rfl⟩
          obtain ⟨cx, hcx⟩ : ∃ c, crc (fillN (fun i => us.getD i 0) k k) = c := ⟨_, rfl⟩
          obtain ⟨cy, hcy⟩ : ∃ c, crc (fillN (fun i => bs.getD i 0) k k) = c := ⟨_, rfl⟩
          obtain ⟨co, hco⟩ : ∃ c, crc (List.replicate k 0) = c := ⟨_, rfl⟩
          rw [hcz, hcx, hcy, hco] at hQ
          rw [hcz] at HZ
          rw [hcx] at HX1
          rw [hcy] at HY
          rw [hco] at HO HO2
          have HW := Lib.hid hT.below
          have hb0 : Below wr.heap.size wr wr := Below.refl _ _
          clear hT H3 hcz hcx hcy hco hla hlb hXl HX
          go_upto_region 11 with fail
          go_region_law (first
            | (go_simp; go_at_call 11; (with_reducible refine (HZ.out _ ?_).mono ?_); (first | exact hb0.drew | exact (hb0.alloc (Nat.le_refl _) _).drew | exact hb0.drew.alloc (Nat.le_refl _) _); rintro e w' ⟨rfl, rfl⟩)
            | (go_simp; go_at_call 11; (with_reducible refine (HX1.out _ ?_).mono ?_); (first | exact hb0.drew | exact (hb0.alloc (Nat.le_refl _) _).drew | exact hb0.drew.alloc (Nat.le_refl _) _); rintro e w' ⟨rfl, rfl⟩)
            | (go_simp; go_at_call 11; (with_reducible refine (HY.out _ ?_).mono ?_); (first | exact hb0.drew | exact (hb0.alloc (Nat.le_refl _) _).drew | exact hb0.drew.alloc (Nat.le_refl _) _); rintro e w' ⟨rfl, rfl⟩)
            | (go_simp; go_at_call 11; (with_reducible refine (HO.out wr _ ?_ _ ?_).mono ?_); rfl; rfl; rintro e w' ⟨rfl, rfl⟩)
            | (go_simp; go_at_call 11; (with_reducible refine (HO2.out wr _ ?_).mono ?_); rfl; rintro e w' ⟨rfl, rfl⟩))
          all_goals
            go_wp2
            go_ret
            first
              | exact ⟨rfl, HW.out.drew⟩
              | exact ⟨rfl, (HW.out.alloc HW.out.size _).drew⟩
              | exact ⟨rfl, HW.out.drew.alloc HW.out.size _⟩

end Go.Proofs.Ytloekfphkepafaa
