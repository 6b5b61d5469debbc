/- What the document's HMAC leans on: its two messages hashed, copy at a step of a region. -/
import Derived.Test.YtloekfphkepafaaRSumB
namespace Go.Proofs.Ytloekfphkepafaa
open Go.RowKit
set_option linter.unusedVariables false

theorem step_copy_arr {w : World} {ops : Array Oper} {o : Oper} {a : Act} {K : Act → World → Prop} {Q : Exit → Act → World → Prop} {E : Prop} (hgd : o.guard = none) (d s : Operand)
    (ho : o.op = .call { callee := .builtin .copy, args := #[d, s], argTypes := #[22, 22] }) {g off dLen dCap sLen sCap : Nat} {sp : Option Addr} (hd : a.eval d = .slice (some ⟨g, off, none⟩) dLen dCap) (hs : a.eval s = .slice sp sLen sCap)
    {t : TypeId} {ys xs : List Int} (hg : Whole w g t (arr .u8 ys)) {B' : Nat} (hsrc : Bs w B' sp sLen xs) (hfit : off + dLen ≤ ys.length) {B : Nat} {w0 : World} (hb : Below B w0 w) (hBg : B ≤ g) {m : Nat} (hm : m = Nat.min sLen dLen)
    (h : ∀ w', Hid (Whole w' g t (arr .u8 (splice ys off (xs.take m)))) → Below B w0 w' → K (a.put o.dst (goInt m)) w') :
    if Region.wanted o (yielded ops a.tmps) = true then Oper.wp Try.prog o a w K Q else E := by
  have m1 : m ≤ sLen := by rw [hm]; exact Nat.min_le_left _ _
  have m2 : m ≤ dLen := by rw [hm]; exact Nat.min_le_right _ _
  have hx := hsrc.1
  have hl : ((xs.take m).map (Value.int .u8)).length = m := by
    simp only [List.length_map, List.length_take]
    omega
  refine step_copy_splice hgd d s 22 22 ho 5 Try.underlying22 Try.sizeByte (some ⟨g, off, none⟩) sp dLen dCap sLen sCap hd hs g off (ys.map (Value.int .u8)) t hg ((xs.take m).map (Value.int .u8)) (hl.trans hm) ?_ ?_ ?_ B w0 hb hBg ?_
  · intro h0
    rw [hl] at h0
    obtain ⟨ad, h2, _, h3⟩ := hsrc.2 (by omega)
    refine ⟨rfl, ad, h2, fun j v hj => ?_⟩
    have hjl : j < m := by
      have := (List.getElem?_eq_some_iff.1 hj).1
      rwa [hl] at this
    rw [h3 j (by omega), ← hj]
    simp [List.getD, hjl, show j < xs.length by omega]
  · rw [hl, List.length_map]
    omega
  · intro v hv
    obtain ⟨x, _, rfl⟩ := List.mem_map.1 hv
    rfl
  · intro w' h1 h2
    have h1' := h1.out
    rw [splice_map] at h1'
    rw [hl]
    exact h w' (Lib.hid h1') h2

theorem blks_more (s : S5) (K r : List Int) (hK : K.length = 64) (j : Nat) : blks s (K ++ r) (j + 1) = blks (blk s K) r j := by
  induction j with
  | zero =>
    rw [blks, blks, blks]
    refine blk_congr _ _ _ fun i hi => ?_
    rw [getD_drop, getD_append, if_pos (by omega)]
    congr 1
    omega
  | succ j ih =>
    rw [blks, ih, blks]
    congr 1
    have e : 64 * (j + 1) = K.length + 64 * j := by omega
    rw [e, List.drop_append]
    simp

theorem padT_64 (n T : Nat) : padT (64 + n) T = padT n T := by
  have e : (64 + n) % 64 = n % 64 := by omega
  rw [padT, padT, e]

/-- A block ahead of a message, hashed. -/
theorem sha_ahead (K msg : List Int) (hK : K.length = 64) : sha (K ++ msg) = shaFrom (blk s0 K) 64 msg := by
  unfold sha shaFrom
  have hl : (K ++ msg).length = 64 + msg.length := by rw [List.length_append, hK]
  rw [hl, padT_64, Nat.zero_add, List.append_assoc]
  have e : (64 + msg.length + 9 + (119 - (64 + msg.length) % 64) % 64) / 64 = (msg.length + 9 + (119 - msg.length % 64) % 64) / 64 + 1 := by omega
  rw [e, blks_more s0 K _ hK]

/-- The key's block under a mask, j of its bytes. -/
def maskN (K : List Int) (mask : Int) (j : Nat) : List Int := (List.range j).map fun i => bits .xor .u8 (K.getD i 0) mask
@[simp] theorem maskN_length (K : List Int) (mask : Int) (j : Nat) : (maskN K mask j).length = j := by simp [maskN]
theorem maskN_succ (K : List Int) (mask : Int) (j : Nat) : maskN K mask (j + 1) = maskN K mask j ++ [bits .xor .u8 (K.getD j 0) mask] := by
  simp [maskN, List.range_succ]
theorem keyB_getD (ks : List Int) (mask : Int) (h : ks.length ≤ 64) {K0 : List Int} (hK : keyB ks mask 0 = K0) (j i : Nat) (hi : i < 64) : (keyB ks mask j).getD i 0 = if i < j then bits .xor .u8 (K0.getD i 0) mask else K0.getD i 0 := by
  induction j with
  | zero => rw [if_neg (by omega), hK]
  | succ j ih =>
    have e0 : keyB ks mask (j + 1) = (keyB ks mask j).set j (bits .xor .u8 ((keyB ks mask j).getD j 0) mask) := rfl
    rw [e0, getD_set, keyB_length ks mask j h]
    by_cases e : j = i
    · subst e
      rw [if_pos ⟨rfl, hi⟩, ih, if_neg (by omega), if_pos (by omega)]
    · rw [if_neg (by omega), ih]
      by_cases h2 : i < j
      · rw [if_pos h2, if_pos (by omega)]
      · rw [if_neg h2, if_neg (by omega)]
theorem maskN_key (ks : List Int) (mask : Int) (h : ks.length ≤ 64) : maskN (ks ++ List.replicate (64 - ks.length) 0) mask 64 = keyB ks mask 64 := by
  apply ext_getD
  · rw [maskN_length, keyB_length ks mask 64 h]
  · intro i hi
    rw [maskN_length] at hi
    rw [keyB_getD ks mask h rfl 64 i hi, if_pos hi]
    simp [maskN, List.getD, hi, keyB]
theorem macOf_sha (ks msg : List Int) (h : ks.length ≤ 64) :
    macOf ks msg = sha (keyB ks 92 64 ++ sha (keyB ks 54 64 ++ msg)) := by
  rw [sha_ahead _ _ (keyB_length ks 54 64 h), sha_ahead _ _ (keyB_length ks 92 64 h)]
  rfl

/-- The two messages so far. -/
structure MAt (w : World) (K I O : List Int) (vi vo : Value) (wr : World) : Prop where
  own1 : Own8 wr w.heap.size vi I
  own2 : Own8 wr w.heap.size vo O
  apart : ∀ k, vi.ownBlock = some k → vo.ownBlock ≠ some k
  key : Whole wr (w.heap.size + 1) 41 (arr .u8 K)
  new : New20 wr w.heap.size
  below : Below w.heap.size w wr
theorem MAt.alloc {w : World} {K I O : List Int} {vi vo : Value} {wr : World} (h : MAt w K I O vi vo wr) (o : Obj) : MAt w K I O vi vo (wr.alloc o) :=
  ⟨h.own1.alloc o, h.own2.alloc o, h.apart, h.key.alloc o, Whole.alloc h.new o, h.below.alloc h.below.size o⟩
theorem MAt.under {w : World} {K I O : List Int} {vi vo : Value} {wr w' : World} (h : MAt w K I O vi vo wr) (hb : Below wr.heap.size wr w') : MAt w K I O vi vo w' :=
  ⟨h.own1.under hb, h.own2.under hb, h.apart, h.key.under hb, Whole.under h.new hb, h.below.trans (hb.mono h.below.size)⟩
theorem MAt.inner {w : World} {K I O I' : List Int} {vi vo vi' : Value} {wr w' : World} (h : MAt w K I O vi vo wr) (ho : Own8 w' w.heap.size vi' I') (hg : wr.grownBy w' vi.ownBlock) (hat : vi'.ownBlock = vi.ownBlock ∨ vi'.ownBlock = some wr.heap.size) : MAt w K I' O vi' vo w' := by
  have hne : vo.ownBlock = none ∨ vo.ownBlock ≠ vi.ownBlock := by
    cases e : vi.ownBlock with
    | none =>
      cases e2 : vo.ownBlock with
      | none => exact .inl rfl
      | some k => exact .inr (fun q => by cases q)
    | some k => exact .inr (h.apart k e)
  refine ⟨ho, h.own2.grown hg hne, fun k hk e => ?_, h.key.grown hg (Ne.symm (own8_ne h.own1 h.key (by decide))), Whole.grown h.new hg (Ne.symm (own8_ne h.own1 h.new (by decide))), h.below.grown hg h.below.size (fun k hk => (h.own1.lt hk).1)⟩
  rcases hat with q | q
  · exact h.apart k (q.symm.trans hk) e
  · rw [q] at hk
    cases hk
    have := (h.own2.lt e).2
    omega
theorem MAt.outer {w : World} {K I O O' : List Int} {vi vo vo' : Value} {wr w' : World} (h : MAt w K I O vi vo wr) (ho : Own8 w' w.heap.size vo' O') (hg : wr.grownBy w' vo.ownBlock) (hat : vo'.ownBlock = vo.ownBlock ∨ vo'.ownBlock = some wr.heap.size) : MAt w K I O' vi vo' w' := by
  have hne : vi.ownBlock = none ∨ vi.ownBlock ≠ vo.ownBlock := by
    cases e : vi.ownBlock with
    | none => exact .inl rfl
    | some k => exact .inr (Ne.symm (h.apart k e))
  refine ⟨h.own1.grown hg hne, ho, fun k hk e => ?_, h.key.grown hg (Ne.symm (own8_ne h.own2 h.key (by decide))), Whole.grown h.new hg (Ne.symm (own8_ne h.own2 h.new (by decide))), h.below.grown hg h.below.size (fun k hk => (h.own2.lt hk).1)⟩
  rcases hat with q | q
  · exact h.apart k hk (q.symm.trans e)
  · rw [q] at e
    cases e
    have := (h.own1.lt hk).2
    omega

end Go.Proofs.Ytloekfphkepafaa
