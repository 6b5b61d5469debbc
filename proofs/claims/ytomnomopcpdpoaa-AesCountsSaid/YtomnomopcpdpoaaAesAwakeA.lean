/- The document's example, reckoned. -/
import Derived.Test.YtomnomopcpdpoaaAesSpec
namespace Go.Proofs.Ytomnomopcpdpoaa
set_option linter.unusedVariables false

def KL0 : List Nat := [0, 1, 2, 3, 4, 5, 6, 7, 8, 9, 10, 11, 12, 13, 14, 15, 214, 170, 116, 253, 210, 175, 114, 250, 218, 166, 120, 241, 214, 171, 118, 254,
  182, 146, 207, 11, 100, 61, 189, 241, 190, 155, 197, 0, 104, 48, 179, 254, 182, 255, 116, 78, 210, 194, 201, 191, 108, 89, 12, 191, 4, 105, 191, 65,
  71, 247, 247, 188, 149, 53, 62, 3, 249, 108, 50, 188, 253, 5, 141, 253, 60, 170, 163, 232, 169, 159, 157, 235, 80, 243, 175, 87, 173, 246, 34, 170,
  94, 57, 15, 125, 247, 166, 146, 150, 167, 85, 61, 193, 10, 163, 31, 107, 20, 249, 112, 26, 227, 95, 226, 140, 68, 10, 223, 77, 78, 169, 192, 38,
  71, 67, 135, 53, 164, 28, 101, 185, 224, 22, 186, 244, 174, 191, 122, 210, 84, 153, 50, 209, 240, 133, 87, 104, 16, 147, 237, 156, 190, 44, 151, 78,
  19, 17, 29, 127, 227, 148, 74, 23, 243, 7, 167, 139, 77, 43, 48, 197]
def TL : List (List Nat) := [[0, 16, 32, 48, 64, 80, 96, 112, 128, 144, 160, 176, 192, 208, 224, 240],
  [137, 216, 16, 232, 133, 90, 206, 104, 45, 24, 67, 216, 203, 18, 143, 228],
  [73, 21, 89, 143, 85, 229, 215, 160, 218, 202, 148, 250, 31, 10, 99, 247],
  [250, 99, 106, 40, 37, 179, 57, 201, 64, 102, 138, 49, 87, 36, 77, 23],
  [36, 114, 64, 35, 105, 102, 179, 250, 110, 210, 117, 50, 136, 66, 91, 108],
  [200, 22, 119, 188, 155, 122, 201, 59, 37, 2, 121, 146, 176, 38, 25, 150],
  [198, 47, 225, 9, 247, 94, 237, 195, 204, 121, 57, 93, 132, 249, 207, 93],
  [209, 135, 108, 15, 121, 196, 48, 10, 180, 85, 148, 173, 214, 111, 244, 31],
  [253, 227, 186, 210, 5, 229, 208, 215, 53, 71, 150, 78, 241, 254, 55, 241],
  [189, 110, 124, 61, 242, 181, 119, 158, 11, 97, 33, 110, 139, 16, 182, 137],
  [105, 196, 224, 216, 106, 123, 4, 48, 216, 205, 183, 128, 112, 180, 197, 90]]

def key0 (i : Nat) : B := BitVec.ofNat 8 i
def in0 (i : Nat) : B := BitVec.ofNat 8 (17 * i)
def Kb (j : Nat) : B := BitVec.ofNat 8 (KL0.getD j 0)
def Tb (n i : Nat) : B := BitVec.ofNat 8 ((TL.getD n []).getD i 0)

theorem K_check : ((List.range 176).all fun j => Kb j == if j < 16 then key0 j else Kb (j - 16) ^^^ (if j / 4 % 4 = 0 then Sb (Kb (j - 4 - j % 4 + (j % 4 + 1) % 4)).toNat ^^^ (if j % 4 = 0 then rc (j / 16 - 1) else 0#8) else Kb (j - 4))) = true := by decide +kernel
theorem T_check0 : ((List.range 16).all fun i => Tb 0 i == in0 i ^^^ Kb i) = true := by decide +kernel
theorem T_check : ((List.range 10).all fun n => (List.range 16).all fun i => Tb (n + 1) i == rd Kb (n + 1) (Tb n) i) = true := by decide +kernel

theorem ks_key0 (j : Nat) (hj : j < 176) : ks key0 j = Kb j := by
  induction j using Nat.strongRecOn with
  | _ j ih =>
    have h := eq_of_beq (all_of K_check hj)
    rw [ks, h]
    by_cases h16 : j < 16
    · rw [dif_pos h16, if_pos h16]
    · rw [dif_neg h16, if_neg h16, ih (j - 16) (by omega) (by omega), ih (j - 4 - j % 4 + (j % 4 + 1) % 4) (by omega) (by omega), ih (j - 4) (by omega) (by omega)]
theorem ss_congr {f g : Nat → B} (h : ∀ i, i < 16 → f i = g i) (i : Nat) (hi : i < 16) : ss f i = ss g i := by
  unfold ss
  rw [h _ (by omega)]
theorem mx_congr {f g : Nat → B} (h : ∀ i, i < 16 → f i = g i) (i : Nat) (hi : i < 16) : mx f i = mx g i := by
  unfold mx
  rw [h i hi, h (4 * (i / 4) + (i % 4 + 1) % 4) (by omega), h (4 * (i / 4) + (i % 4 + 2) % 4) (by omega), h (4 * (i / 4) + (i % 4 + 3) % 4) (by omega)]
theorem rd_congr {K L : Nat → B} {f g : Nat → B} (n : Nat) (hK : ∀ i, i < 16 → K (16 * n + i) = L (16 * n + i)) (h : ∀ i, i < 16 → f i = g i) (i : Nat) (hi : i < 16) : rd K n f i = rd L n g i := by
  unfold rd
  rw [hK i hi, mx_congr (ss_congr h) i hi, ss_congr h i hi]
theorem st_key0 (n : Nat) (hn : n ≤ 10) : ∀ i, i < 16 → st (ks key0) in0 n i = Tb n i := by
  induction n with
  | zero =>
    intro i hi
    rw [eq_of_beq (all_of T_check0 hi)]
    show in0 i ^^^ ks key0 i = _
    rw [ks_key0 i (by omega)]
  | succ n ih =>
    intro i hi
    have h1 := all_of T_check (i := n) (by omega)
    rw [eq_of_beq (all_of (p := fun i => Tb (n + 1) i == rd Kb (n + 1) (Tb n) i) h1 hi)]
    exact rd_congr (n + 1) (fun j hj => ks_key0 _ (by omega)) (ih (by omega)) i hi
theorem awake_0 : nb (st (ks key0) in0 10 0) = 105 := by rw [st_key0 10 (by omega) 0 (by omega)]; decide +kernel
theorem awake_1 : nb (st (ks key0) in0 10 1) = 196 := by rw [st_key0 10 (by omega) 1 (by omega)]; decide +kernel
theorem awake_15 : nb (st (ks key0) in0 10 15) = 90 := by rw [st_key0 10 (by omega) 15 (by omega)]; decide +kernel

end Go.Proofs.Ytomnomopcpdpoaa
