/- Texts as lists of bytes; a text cut at the first place of a separator. Nothing of the program. -/
import Derived.Test.YtmlapbadgjhhdaaGreatDoorProg
import Derived.Lib.IndexMore
import Derived.Lib.Join
namespace Go.Proofs.YtmlapbadgjhhdaaGreatDoor
set_option linter.unusedVariables false

abbrev Tx := List UInt8
def tx (s : ByteArray) : Tx := s.data.toList
def bs (l : Tx) : ByteArray := ⟨l.toArray⟩
@[simp] theorem tx_bs (l : Tx) : tx (bs l) = l := by simp [tx, bs]
@[simp] theorem bs_tx (s : ByteArray) : bs (tx s) = s := Lib.mk_data s
theorem tx_length (s : ByteArray) : (tx s).length = s.size := (Lib.size_eq s).symm
theorem tx_inj {s t : ByteArray} (h : tx s = tx t) : s = t := by rw [← bs_tx s, ← bs_tx t, h]
theorem tx_extract (s : ByteArray) (a b : Nat) : tx (s.extract a b) = ((tx s).drop a).take (b - a) := Lib.extract_data s a b
theorem toList_tx (s : ByteArray) : s.toList = tx s := Lib.toList_data s
theorem bs_size (l : Tx) : (bs l).size = l.length := by rw [← tx_length, tx_bs]
theorem tx_append (s t : ByteArray) : tx (s ++ t) = tx s ++ tx t := by
  obtain ⟨⟨l⟩⟩ := s
  obtain ⟨⟨k⟩⟩ := t
  simp [tx, ByteArray.data_append]

/-- What stands ahead of the first place of sep, behind it, and whether there is one. -/
def cutS (sep : Tx) : Tx → Tx × Tx × Bool
  | [] => if sep.isEmpty then ([], [], true) else ([], [], false)
  | c :: r => if sep.isPrefixOf (c :: r) then ([], (c :: r).drop sep.length, true) else (c :: (cutS sep r).1, (cutS sep r).2.1, (cutS sep r).2.2)

theorem cut_eq (sep s : Tx) : Lib.cut s sep = cutS sep s := by
  induction s with
  | nil =>
    unfold cutS Lib.cut Lib.index
    cases sep <;> simp
  | cons c r ih =>
    unfold cutS
    by_cases h : sep.isPrefixOf (c :: r) = true
    · rw [if_pos h]
      unfold Lib.cut Lib.index
      rw [if_pos h]
      simp
    · rw [if_neg h, ← ih]
      have hi := Lib.index_ge r sep
      unfold Lib.cut
      rw [show Lib.index (c :: r) sep = if Lib.index r sep == -1 then -1 else Lib.index r sep + 1 by rw [Lib.index, if_neg h]]
      by_cases h1 : Lib.index r sep = -1
      · simp [h1]
      · have h2 : 0 ≤ Lib.index r sep := by omega
        have h3 : (Lib.index r sep == -1) = false := by simpa using h1
        rw [h3]
        simp only [Bool.false_eq_true, if_false]
        rw [if_pos (by omega), if_pos h2]
        have h4 : (Lib.index r sep + 1).toNat = (Lib.index r sep).toNat + 1 := by omega
        rw [h4]
        simp [Nat.add_right_comm]

theorem cutS_some (sep : Tx) : ∀ s, (cutS sep s).2.2 = true → s = (cutS sep s).1 ++ sep ++ (cutS sep s).2.1
  | [], h => by
    unfold cutS at h ⊢
    cases sep <;> simp at h ⊢
  | c :: r, h => by
    unfold cutS at h ⊢
    by_cases hp : sep.isPrefixOf (c :: r) = true
    · rw [if_pos hp]
      obtain ⟨t, ht⟩ := List.isPrefixOf_iff_prefix.1 hp
      simp [← ht]
    · rw [if_neg hp] at h ⊢
      have := cutS_some sep r h
      simp only [List.cons_append]
      rw [← this]
theorem cutS_none (sep : Tx) : ∀ s, (cutS sep s).2.2 = false → (cutS sep s).1 = s ∧ (cutS sep s).2.1 = []
  | [], h => by
    unfold cutS
    cases sep <;> simp
  | c :: r, h => by
    unfold cutS at h ⊢
    by_cases hp : sep.isPrefixOf (c :: r) = true
    · rw [if_pos hp] at h
      cases h
    · rw [if_neg hp] at h ⊢
      have := cutS_none sep r h
      simp only
      rw [this.1, this.2]
      exact ⟨rfl, rfl⟩
theorem cutS_len (sep : Tx) (s : Tx) : (cutS sep s).1.length ≤ s.length ∧ (cutS sep s).2.1.length ≤ s.length := by
  cases h : (cutS sep s).2.2 with
  | false => rw [(cutS_none sep s h).1, (cutS_none sep s h).2]; simp
  | true =>
    have := congrArg List.length (cutS_some sep s h)
    simp at this
    omega
/-- A line without the separator's first byte, ended by it. -/
theorem cutS_clean {c0 : UInt8} {t : Tx} (a b : Tx) (h : ∀ c ∈ a, c ≠ c0) : cutS (c0 :: t) (a ++ (c0 :: t) ++ b) = (a, b, true) := by
  induction a with
  | nil =>
    simp only [List.nil_append, List.cons_append]
    unfold cutS
    rw [if_pos (by simp)]
    simp
  | cons c r ih =>
    have hc := h c (by simp)
    have := ih (fun d hd => h d (by simp [hd]))
    simp only [List.cons_append] at this ⊢
    unfold cutS
    rw [if_neg (by simp [List.isPrefixOf, Ne.symm hc]), this]
theorem cutS_free {c0 : UInt8} {t : Tx} (a : Tx) (h : ∀ c ∈ a, c ≠ c0) : cutS (c0 :: t) a = (a, [], false) := by
  induction a with
  | nil => rfl
  | cons c r ih =>
    have hc := h c (by simp)
    have := ih (fun d hd => h d (by simp [hd]))
    unfold cutS
    rw [if_neg (by simp [List.isPrefixOf, Ne.symm hc]), this]
/-- What stands ahead of the first place of one byte has none. -/
theorem cutS_one_free (c0 : UInt8) : ∀ s : Tx, ∀ c ∈ (cutS [c0] s).1, c ≠ c0
  | [], c, h => by simp [cutS] at h
  | d :: r, c, h => by
    unfold cutS at h
    by_cases hp : [c0].isPrefixOf (d :: r) = true
    · rw [if_pos hp] at h
      cases h
    · rw [if_neg hp] at h
      rcases List.mem_cons.1 h with rfl | h
      · intro e
        subst e
        exact hp (by simp)
      · exact cutS_one_free c0 r c h
end Go.Proofs.YtmlapbadgjhhdaaGreatDoor
