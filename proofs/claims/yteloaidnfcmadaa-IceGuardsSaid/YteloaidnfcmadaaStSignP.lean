/- Signed messages, on lists. -/
import Derived.Test.YteloaidnfcmadaaStBackP
import Derived.Test.YteloaidnfcmadaaShaAll
namespace Go.Proofs.Yteloaidnfcmadaa
open Go.RowKit
set_option linter.unusedVariables false

def z4 : List Int := List.replicate 4 0
def with1 (m : Msg) (t : List Int) : Msg := ⟨m.cl, m.me, m.id, m.at_ ++ [⟨8, t⟩]⟩
def with2 (m : Msg) (t c : List Int) : Msg := ⟨m.cl, m.me, m.id, m.at_ ++ [⟨8, t⟩, ⟨32808, c⟩]⟩
def Free (L : List At) : Prop := ∀ a ∈ L, a.ty ≠ 8 ∧ a.ty ≠ 32808
structure CanSign (m : Msg) : Prop where
  free : Free m.at_
  valid : Valid (with2 m z20 z4)
/-- The bytes ahead of the first attribute that is added; those ahead of the second one. -/
def preM (m : Msg) : List Int := be2 (kindOf m.cl m.me) ++ (be2 (((body m.at_).length + 24 : Nat) : Int) ++ (be4 554869826 ++ (m.id ++ body m.at_)))
def preC (m : Msg) (t : List Int) : List Int := be2 (kindOf m.cl m.me) ++ (be2 (((body m.at_).length + 32 : Nat) : Int) ++ (be4 554869826 ++ (m.id ++ (body m.at_ ++ ([0, 8, 0, 20] ++ t)))))
def tagOf (m : Msg) (key : List Int) : List Int := mac key (preM m)
def sumOf (m : Msg) (t : List Int) : List Int := be4 (bits .xor .u32 (crc (preC m t)) 1398035790)
def signed (m : Msg) (key : List Int) : Msg := with2 m (tagOf m key) (sumOf m (tagOf m key))
def signB (m : Msg) (key : List Int) : List Int := msgBytes (signed m key)

theorem tag_len (m : Msg) (key : List Int) : (tagOf m key).length = 20 := by
  have := (fit20_mac key (preM m)).1
  unfold tagOf
  simpa [arr] using this
theorem sum_len (m : Msg) (t : List Int) : (sumOf m t).length = 4 := rfl
theorem z20_len : z20.length = 20 := by simp [z20]
theorem z4_len : z4.length = 4 := rfl
theorem at8_bytes {t : List Int} (h : t.length = 20) : atBytes ⟨8, t⟩ = [0, 8, 0, 20] ++ t := by
  simp [atBytes, h, padN, be2]
theorem at9_bytes {c : List Int} (h : c.length = 4) : atBytes ⟨32808, c⟩ = [128, 40, 0, 4] ++ c := by
  simp [atBytes, h, padN, be2]
theorem body_with1 {L : List At} {t : List Int} (h : t.length = 20) : body (L ++ [⟨8, t⟩]) = body L ++ ([0, 8, 0, 20] ++ t) := by
  rw [body_append]
  simp [body, at8_bytes h]
theorem body_with2 {L : List At} {t c : List Int} (h : t.length = 20) (hc : c.length = 4) : body (L ++ [⟨8, t⟩, ⟨32808, c⟩]) = body L ++ ([0, 8, 0, 20] ++ (t ++ ([128, 40, 0, 4] ++ c))) := by
  rw [body_append]
  simp [body, at8_bytes h, at9_bytes hc]
theorem with1_bytes (m : Msg) {t : List Int} (h : t.length = 20) : msgBytes (with1 m t) = preM m ++ ([0, 8, 0, 20] ++ t) := by
  unfold msgBytes with1 preM
  simp only [body_with1 h]
  have : ((body m.at_ ++ ([0, 8, 0, 20] ++ t)).length : Nat) = (body m.at_).length + 24 := by simp [h]
  rw [this]
  simp
theorem with2_bytes (m : Msg) {t c : List Int} (h : t.length = 20) (hc : c.length = 4) : msgBytes (with2 m t c) = preC m t ++ ([128, 40, 0, 4] ++ c) := by
  unfold msgBytes with2 preC
  simp only [body_with2 h hc]
  have : ((body m.at_ ++ ([0, 8, 0, 20] ++ (t ++ ([128, 40, 0, 4] ++ c)))).length : Nat) = (body m.at_).length + 32 := by simp [h, hc]
  rw [this]
  simp
/-- The same bytes behind the head, with another length: what signing writes on its way. -/
theorem preM_len {m : Msg} (h : m.id.length = 12) : (preM m).length = szN m := by simp [preM, szN, body_length, h]; omega
theorem preC_len {m : Msg} (h : m.id.length = 12) {t : List Int} (ht : t.length = 20) : (preC m t).length = szN m + 24 := by simp [preC, szN, body_length, h, ht]; omega
theorem with2_size {m : Msg} {t c : List Int} (ht : t.length = 20) (hc : c.length = 4) : szN (with2 m t c) = szN m + 32 := by
  unfold szN with2
  simp only [bodySize_append, bodySize, atSize, ht, hc, padN]
  omega
theorem with1_size {m : Msg} {t : List Int} (ht : t.length = 20) : szN (with1 m t) = szN m + 24 := by
  unfold szN with1
  simp only [bodySize_append, bodySize, atSize, ht, padN]
  omega
theorem Valid.re2 {m : Msg} {t c t' c' : List Int} (h : Valid (with2 m t c)) (ht : t.length = 20) (hc : c.length = 4) (ht' : t'.length = 20) (hc' : c'.length = 4) : Valid (with2 m t' c') :=
  ⟨h.c0, h.c3, h.m0, h.m4, by have := h.most; simpa [with2] using this, fun a ha => by
    simp only [with2, List.mem_append, List.mem_cons, List.not_mem_nil, or_false] at ha
    rcases ha with ha | rfl | rfl
    · exact h.vals a (by simp [with2, ha])
    · show t'.length ≤ 512; omega
    · show c'.length ≤ 512; omega, by have := h.size; rw [with2_size ht hc] at this; rw [with2_size ht' hc']; exact this⟩
theorem Valid.re1 {m : Msg} {t c t' : List Int} (h : Valid (with2 m t c)) (ht : t.length = 20) (hc : c.length = 4) (ht' : t'.length = 20) : Valid (with1 m t') :=
  ⟨h.c0, h.c3, h.m0, h.m4, by have := h.most; simp [with2] at this; simp [with1]; omega, fun a ha => by
    simp only [with1, List.mem_append, List.mem_cons, List.not_mem_nil, or_false] at ha
    rcases ha with ha | rfl
    · exact h.vals a (by simp [with2, ha])
    · show t'.length ≤ 512; omega, by have := h.size; rw [with2_size ht hc] at this; rw [with1_size ht']; omega⟩
theorem Valid.re0 {m : Msg} {t c : List Int} (h : Valid (with2 m t c)) (ht : t.length = 20) (hc : c.length = 4) : Valid m :=
  ⟨h.c0, h.c3, h.m0, h.m4, by have := h.most; simp [with2] at this; omega, fun a ha => h.vals a (by simp [with2, ha]), by have := h.size; rw [with2_size ht hc] at this; omega⟩
theorem In256.cast {xs : List Int} (h : ∀ i, 0 ≤ xs.getD i 0 ∧ xs.getD i 0 < 256) : In256 xs := h
theorem in256_zeros (n : Nat) : In256 (List.replicate n 0) := fun i => by rw [getD_zeros]; omega
theorem Fine.re2 {m : Msg} {t c : List Int} (h : Fine m) (ht : In256 t) (hc : In256 c) : Fine (with2 m t c) :=
  ⟨h.id12, h.idb, fun a ha => by
    simp only [with2, List.mem_append, List.mem_cons, List.not_mem_nil, or_false] at ha
    rcases ha with ha | rfl | rfl
    · exact h.tys a ha
    · exact ⟨by simp, by simp⟩
    · exact ⟨by simp, by simp⟩, fun a ha => by
    simp only [with2, List.mem_append, List.mem_cons, List.not_mem_nil, or_false] at ha
    rcases ha with ha | rfl | rfl
    · exact h.vals a ha
    · exact ht
    · exact hc⟩
theorem Fine.re1 {m : Msg} {t : List Int} (h : Fine m) (ht : In256 t) : Fine (with1 m t) :=
  ⟨h.id12, h.idb, fun a ha => by
    simp only [with1, List.mem_append, List.mem_cons, List.not_mem_nil, or_false] at ha
    rcases ha with ha | rfl
    · exact h.tys a ha
    · exact ⟨by simp, by simp⟩, fun a ha => by
    simp only [with1, List.mem_append, List.mem_cons, List.not_mem_nil, or_false] at ha
    rcases ha with ha | rfl
    · exact h.vals a ha
    · exact ht⟩
theorem in256_preM {m : Msg} (hf : Fine m) : In256 (preM m) := In256.append (in256_be2 _) (In256.append (in256_be2 _) (In256.append (in256_be4 _) (In256.append hf.idb (in256_body hf.vals))))
theorem in256_preC {m : Msg} (hf : Fine m) {t : List Int} (ht : In256 t) : In256 (preC m t) := In256.append (in256_be2 _) (In256.append (in256_be2 _) (In256.append (in256_be4 _) (In256.append hf.idb (In256.append (in256_body hf.vals) (In256.append (a := [0, 8, 0, 20]) (In256.of_all (by simp)) ht)))))
theorem mac_in (key ms : List Int) : In256 (mac key ms) := by
  unfold mac
  split
  · exact from_in8 _ _ _
  · exact from_in8 _ _ _
theorem tag_in (m : Msg) (key : List Int) : In256 (tagOf m key) := mac_in _ _
theorem sum_in (m : Msg) (t : List Int) : In256 (sumOf m t) := in256_be4 _
theorem CanSign.ok {m : Msg} {key : List Int} (h : CanSign m) : Valid (signed m key) := h.valid.re2 z20_len z4_len (tag_len _ _) (sum_len _ _)
theorem signed_fine {m : Msg} {key : List Int} (h : Fine m) : Fine (signed m key) := h.re2 (tag_in _ _) (sum_in _ _)
theorem signed_is {m : Msg} {key : List Int} (h : CanSign m) (hf : Fine m) : Is (signB m key) (signed m key) := ⟨h.ok, signed_fine hf, rfl⟩
theorem signB_is (m : Msg) (key : List Int) : signB m key = preC m (tagOf m key) ++ ([128, 40, 0, 4] ++ sumOf m (tagOf m key)) := with2_bytes m (tag_len _ _) (sum_len _ _)

/-- A message without its last two attributes. -/
def bare (m : Msg) : Msg := ⟨m.cl, m.me, m.id, m.at_.take (m.at_.length - 2)⟩
def SignedBy (m : Msg) (key : List Int) : Prop := CanSign (bare m) ∧ signB (bare m) key = msgBytes m
theorem bare_fine {m : Msg} (h : Fine m) : Fine (bare m) := ⟨h.id12, h.idb, fun a ha => h.tys a (List.mem_of_mem_take ha), fun a ha => h.vals a (List.mem_of_mem_take ha)⟩
theorem few_not {m : Msg} {key : List Int} (hv : Valid m) (hf : Fine m) (h : m.at_.length < 2) : ¬ SignedBy m key := fun ⟨hc, he⟩ => by
  have e := Is.same (signed_is hc (bare_fine hf)) (⟨hv, hf, he.symm⟩ : Is (signB (bare m) key) m)
  have := congrArg (fun x => x.at_.length) e
  simp [signed, with2] at this
  omega
theorem bare_signed (m : Msg) (key : List Int) : bare (signed m key) = m := by
  simp [bare, signed, with2]
theorem signed_by {m : Msg} {key : List Int} (h : CanSign m) : SignedBy (signed m key) key := by
  unfold SignedBy
  rw [bare_signed]
  exact ⟨h, rfl⟩
end Go.Proofs.Yteloaidnfcmadaa
