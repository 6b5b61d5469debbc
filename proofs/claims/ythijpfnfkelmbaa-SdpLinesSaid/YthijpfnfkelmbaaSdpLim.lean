/- SdpLimits: texts at the limits. -/
import Derived.Test.YthijpfnfkelmbaaSdpParses
namespace Go.Proofs.Ythijpfnfkelmbaa
open Go.RowKit
set_option linter.unusedVariables false
set_option linter.unusedSimpArgs false

def lineM : Tx := [109, 61, 120]
def lineB : Tx := [97, 61, 98]
def attrB : AttrS := ⟨bs [98], bs []⟩
def headS : List Tx := headL (bs [120]) (bs [45]) (bs [48, 32, 48])
def stH : PSt := ⟨bs [120], bs [45], bs [48, 32, 48], [], [], none⟩
theorem head_steps : Steps PSt.init 1 headS stH := by
  refine Steps.cons (st' := PSt.init) rfl (.cons (st' := ⟨bs [120], bs [], bs [], [], [], none⟩) ?_ (.cons (st' := ⟨bs [120], bs [45], bs [], [], [], none⟩) ?_ (.cons (st' := stH) ?_ .nil)))
  · simp [stepP, PSt.init]
    decide
  · simp [stepP]
    decide
  · simp [stepP, stH]
    decide
theorem m_steps : ∀ (j : Nat) (st : PSt) (k : Nat), 4 < k → st.here = [] → st.parts.length + j ≤ 8 → ∃ st', Steps st k (List.replicate j lineM) st' ∧ st'.parts.length = st.parts.length + j ∧ st'.here = []
  | 0, st, k, _, h, _ => ⟨st, .nil, rfl, h⟩
  | j + 1, st, k, hk, h, hl => by
    have h1 : stepP st k lineM = .go (st.part [120]) := step_line hk (v := [120]) (by decide) (by omega)
    have hp : (st.part [120]).parts.length = st.parts.length + 1 := by simp [PSt.part, PSt.parts]; omega
    obtain ⟨st', h2, h3, h4⟩ := m_steps j (st.part [120]) (k + 1) (by omega) rfl (by omega)
    exact ⟨st', .cons h1 h2, by omega, h4⟩
theorem push_parts (st : PSt) (a : AttrS) : (st.push a).parts.length = st.parts.length := by
  unfold PSt.push PSt.parts
  cases st.cur <;> simp
theorem b_steps : ∀ (j : Nat) (st : PSt) (k : Nat), 4 < k → st.here.length + j ≤ 64 → ∃ st', Steps st k (List.replicate j lineB) st' ∧ st'.parts.length = st.parts.length ∧ st'.here.length = st.here.length + j
  | 0, st, k, _, _ => ⟨st, .nil, rfl, rfl⟩
  | j + 1, st, k, hk, hl => by
    have h1 : stepP st k lineB = .go (st.push attrB) := step_attr hk (a := attrB) (by decide) (by omega)
    have hp : (st.push attrB).here.length = st.here.length + 1 := by rw [here_push]; simp
    obtain ⟨st', h2, h3, h4⟩ := b_steps j (st.push attrB) (k + 1) (by omega) (by omega)
    exact ⟨st', .cons h1 h2, by rw [h3, push_parts], by omega⟩
theorem clean_M : Clean lineM := by intro c hc; revert c; decide
theorem clean_B : Clean lineB := by intro c hc; revert c; decide
theorem clean_head : ∀ a ∈ headS, Clean a := by
  intro a ha c hc
  revert c
  revert a
  decide
theorem clean_rep {l : Tx} (h : Clean l) (j : Nat) : ∀ a ∈ List.replicate j l, Clean a := fun a ha => by rw [(List.mem_replicate.1 ha).2]; exact h
theorem head_len : headS.length = 4 := rfl
/-- The text of the head, p parts, n attributes. -/
def textPN (p n : Nat) : Tx := textL (headS ++ List.replicate p lineM ++ List.replicate n lineB)
theorem textL_rep (l : Tx) : ∀ j : Nat, (textL (List.replicate j l)).length = j * (l.length + 2)
  | 0 => by simp [textL]
  | j + 1 => by
    rw [List.replicate_succ, textL_cons, List.length_append, textL_rep l j, Nat.succ_mul]
    simp
    omega
theorem textPN_len (p n : Nat) : (textPN p n).length = 22 + p * 5 + n * 5 := by
  unfold textPN
  rw [textL_append, textL_append, List.length_append, List.length_append, textL_rep, textL_rep]
  rfl
theorem cut_line (a : Tx) (h : Clean a) (l : Tx) : cutS crlf (a ++ crlf ++ l) = (a, l, true) := by
  have := cutS_clean (t := [10]) a l h
  simpa using this
theorem parsed_many {p n : Nat} (hp : 8 < p) (hl : p < 12 ∧ n < 70) : Parsed (textPN p n) (.err 13 3) := by
  refine .inr ⟨by rw [textPN_len]; omega, ?_⟩
  obtain ⟨st, h1, h2, h3⟩ := m_steps 8 stH 5 (by omega) rfl (by simp [stH, PSt.parts])
  have h4 : Steps PSt.init 1 (headS ++ List.replicate 8 lineM) st := head_steps.append h1
  have e : List.replicate p lineM = List.replicate 8 lineM ++ (lineM :: List.replicate (p - 9) lineM) := by
    rw [← List.replicate_succ, List.replicate_append_replicate]
    congr 1
    omega
  have e2 : textPN p n = textL (headS ++ List.replicate 8 lineM) ++ (lineM ++ crlf ++ textL (List.replicate (p - 9) lineM ++ List.replicate n lineB)) := by
    unfold textPN
    rw [e, show headS ++ (List.replicate 8 lineM ++ (lineM :: List.replicate (p - 9) lineM)) ++ List.replicate n lineB = (headS ++ List.replicate 8 lineM) ++ (lineM :: (List.replicate (p - 9) lineM ++ List.replicate n lineB)) by
      simp only [List.append_assoc, List.cons_append], textL_append, textL_cons]
  rw [e2]
  refine h4.runs (fun a ha => ?_) (.bad (cut_line _ clean_M _) ?_)
  · rcases List.mem_append.1 ha with h | h
    · exact clean_head a h
    · exact clean_rep clean_M 8 a h
  · have hk : (1 + (headS ++ List.replicate 8 lineM).length) = 13 := by simp [head_len]
    rw [hk]
    have h8 : st.parts.length = 8 := by rw [h2]; rfl
    unfold stepP
    rw [if_neg (by omega), if_neg (by omega), if_neg (by omega), if_neg (by omega)]
    unfold bodyP
    rw [if_pos (by decide), if_pos (by decide), if_pos (by omega)]
theorem parsed_long {p n : Nat} (hp : p ≤ 8) (hn : 64 < n) (hl : n < 70) : Parsed (textPN p n) (.err (4 + p + 65) 3) := by
  refine .inr ⟨by rw [textPN_len]; omega, ?_⟩
  obtain ⟨st, h1, h2, h3⟩ := m_steps p stH 5 (by omega) rfl (by simp [stH, PSt.parts]; omega)
  obtain ⟨st2, h5, h6, h7⟩ := b_steps 64 st (5 + p) (by omega) (by rw [h3]; simp)
  have h4 : Steps PSt.init 1 (headS ++ List.replicate p lineM ++ List.replicate 64 lineB) st2 := (head_steps.append h1).append (by
    have e : 1 + (headS ++ List.replicate p lineM).length = 5 + p := by simp [head_len]; omega
    rw [e]
    exact h5)
  have e : List.replicate n lineB = List.replicate 64 lineB ++ (lineB :: List.replicate (n - 65) lineB) := by
    rw [← List.replicate_succ, List.replicate_append_replicate]
    congr 1
    omega
  have e2 : textPN p n = textL (headS ++ List.replicate p lineM ++ List.replicate 64 lineB) ++ (lineB ++ crlf ++ textL (List.replicate (n - 65) lineB)) := by
    unfold textPN
    rw [e, ← List.append_assoc, textL_append, textL_cons]
  rw [e2]
  have hk : (1 + (headS ++ List.replicate p lineM ++ List.replicate 64 lineB).length) = 4 + p + 65 := by simp [head_len]; omega
  have hfin := h4.runs (l := lineB ++ crlf ++ textL (List.replicate (n - 65) lineB)) (r := .err (1 + (headS ++ List.replicate p lineM ++ List.replicate 64 lineB).length) 3) (fun a ha => ?_) (.bad (cut_line _ clean_B _) ?_)
  · rw [hk] at hfin
    exact hfin
  · rcases List.mem_append.1 ha with h | h
    · rcases List.mem_append.1 h with h | h
      · exact clean_head a h
      · exact clean_rep clean_M p a h
    · exact clean_rep clean_B 64 a h
  · rw [hk]
    have h8 : st2.here.length = 64 := by rw [h7, h3]; rfl
    unfold stepP
    rw [if_neg (by omega), if_neg (by omega), if_neg (by omega), if_neg (by omega)]
    unfold bodyP
    have ha : attrP (lineB.drop 2) = some attrB := okAt_attrP (a := attrB) (by decide)
    rw [if_neg (by decide), if_neg (by decide), if_pos (by decide), ha]
    simp only
    rw [if_pos (by omega)]
theorem parsed_right {p n : Nat} (hp : p ≤ 8) (hn : n ≤ 64) : ∃ x, Parsed (textPN p n) (.ok x) ∧ x.parts.length = p := by
  obtain ⟨st, h1, h2, h3⟩ := m_steps p stH 5 (by omega) rfl (by simp [stH, PSt.parts]; omega)
  obtain ⟨st2, h5, h6, h7⟩ := b_steps n st (5 + p) (by omega) (by rw [h3]; simp; omega)
  have h4 : Steps PSt.init 1 (headS ++ List.replicate p lineM ++ List.replicate n lineB) st2 := (head_steps.append h1).append (by
    have e : 1 + (headS ++ List.replicate p lineM).length = 5 + p := by simp [head_len]; omega
    rw [e]
    exact h5)
  refine ⟨st2.ses, .inr ⟨by rw [textPN_len]; omega, ?_⟩, ?_⟩
  · have := h4.runs (l := []) (r := .ok st2.ses) (fun a ha => by
      rcases List.mem_append.1 ha with h | h
      · rcases List.mem_append.1 h with h | h
        · exact clean_head a h
        · exact clean_rep clean_M p a h
      · exact clean_rep clean_B n a h) (.done (by simp [head_len]; omega))
    rw [List.append_nil] at this
    exact this
  · show st2.parts.length = p
    rw [h6, h2]
    simp [stH, PSt.parts]
end Go.Proofs.Ythijpfnfkelmbaa
