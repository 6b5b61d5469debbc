import Derived.Test.YtlekmakofkpcdaaGreatDoorPkAttrReadsA17
namespace Go.Proofs.YtlekmakofkpcdaaGreatDoor
open Go.RowKit
set_option linter.unusedVariables false
set_option linter.unusedSimpArgs false
def AtR (w : World) (base : Nat) (v : Value) (L : List AttrS) : Prop := Own w base 47 2 v (L.map acell)
theorem AtR.under {w w' : World} {base : Nat} {v : Value} {L : List AttrS} (h : AtR w base v L) (hb : Below w.heap.size w w') : AtR w' base v L := Own.under h hb
theorem AtR.base {w : World} {base : Nat} {v : Value} {L : List AttrS} (h : AtR w base v L) : ∀ k, v.ownBlock = some k → base ≤ k := fun k hk => (Own.lt h hk).1
theorem AtR.form {w : World} {base : Nat} {v : Value} {L : List AttrS} (h : AtR w base v L) : ∃ A n c, v = .slice A n c := by
 obtain ⟨A, c, e, -⟩ := Own.form h
 exact ⟨A, _, c, e⟩
section
variable {ops : Array Oper} {rest : List Oper} {o : Oper} {a : Act} {Q : Exit → Act → World → Prop} {K : Act → World → Prop} {w : World} {base : Nat} {v : Value} {L : List AttrS} {n val : ByteArray} {c : Nat}
theorem addR (hown : AtR w base v L) (hl : L.length ≤ 1000000) (hb : base ≤ w.heap.size) {v' : Value} {w' : World} (h1 : Own w' base 47 2 v' (L.map acell ++ [[.string n, .string val]])) (h2 : (w.alloc (.cells #[.string n, .string val] 47)).grownBy w' v.ownBlock) (h3 : v'.ownBlock = v.ownBlock ∨ v'.ownBlock = some (w.alloc (.cells #[.string n, .string val] 47)).heap.size) :
 AtR w' base v' (L ++ [⟨n, val⟩]) ∧ Grew w v w' v' := by
 refine ⟨?_, ((Only.refl _ _).alloc _).grown h2 (fun k hk => .inl hk), fun k hk => ?_⟩
 · show Own _ _ _ _ _ _
   rw [List.map_append]
   exact h1
 · rcases h3 with h3 | h3
   · exact .inl (by rw [← h3]; exact hk)
   · rw [h3] at hk
     injection hk with hk
     right
     rw [← hk, World.size_alloc]
     omega
theorem wpList_addR (hgd : o.guard = none) (s y : Operand) (ho : o.op = .call { callee := .builtin .append, args := #[s, y], argTypes := #[22, 22] }) (hs : a.eval s = v) (hy : a.eval y = .slice (some ⟨w.heap.size, 0, none⟩) 1 c) (hown : AtR w base v L) (hl : L.length ≤ 1000000) (hb : base ≤ w.heap.size)
 (h : ∀ v' w', AtR w' base v' (L ++ [⟨n, val⟩]) → Grew w v w' v' → wpList Tryz.prog ops Q rest (a.put o.dst v') w') : wpList Tryz.prog ops Q (o :: rest) a (w.alloc (.cells #[.string n, .string val] 47)) :=
 wpList_appendE (r := [.string n, .string val]) hgd s y ho Tryz.underlying22 Tryz.infoRSAttr rfl (Nat.zero_lt_succ _) hs (Own.alloc hown _) hy (Whole.new w 47 _) rfl (fun u hu => by simp at hu; rcases hu with rfl | rfl <;> rfl) (by rw [List.length_map]; omega) (by rw [List.length_map]; omega) (by rw [World.size_alloc]; omega)
  fun v' w' h1 h2 h3 => by
   obtain ⟨g1, g2⟩ := addR hown hl hb h1 h2 h3
   exact h v' w' g1 g2
theorem wp_addR (s y : Operand) (ho : o.op = .call { callee := .builtin .append, args := #[s, y], argTypes := #[22, 22] }) (hs : a.eval s = v) (hy : a.eval y = .slice (some ⟨w.heap.size, 0, none⟩) 1 c) (hown : AtR w base v L) (hl : L.length ≤ 1000000) (hb : base ≤ w.heap.size)
 (h : ∀ v' w', AtR w' base v' (L ++ [⟨n, val⟩]) → Grew w v w' v' → K (a.put o.dst v') w') : o.wp Tryz.prog a (w.alloc (.cells #[.string n, .string val] 47)) K Q :=
 wp_appendE (r := [.string n, .string val]) s y ho Tryz.underlying22 Tryz.infoRSAttr rfl (Nat.zero_lt_succ _) hs (Own.alloc hown _) hy (Whole.new w 47 _) rfl (fun u hu => by simp at hu; rcases hu with rfl | rfl <;> rfl) (by rw [List.length_map]; omega) (by rw [List.length_map]; omega) (by rw [World.size_alloc]; omega)
  fun v' w' h1 h2 h3 => by
   obtain ⟨g1, g2⟩ := addR hown hl hb h1 h2 h3
   exact h v' w' g1 g2
end
theorem AtR.two {w : World} {base : Nat} (hb : base ≤ w.heap.size) (a b c d : ByteArray) : AtR (w.alloc (.cells #[.string a, .string b, .string c, .string d] 47)) base (.slice (some ⟨w.heap.size, 0, none⟩) 2 2) [⟨a, b⟩, ⟨c, d⟩] :=
 ⟨World.ownsRow_lit w _ 2 hb (by decide) rfl, fun r hr => by simp [acell] at hr; rcases hr with rfl | rfl <;> rfl⟩
abbrev zPart : Array Value := #[.string ⟨#[]⟩, .string ⟨#[]⟩, .slice none 0 0]
abbrev connB : ByteArray := ⟨#[73, 78, 32, 73, 80, 52, 32, 48, 46, 48, 46, 48, 46, 48]⟩
structure WB (w0 : World) (M : Array Value) (pb : Nat) (ln : ByteArray) (w : World) : Prop where
 low : Below w0.heap.size w0 w
 box : Whole w w0.heap.size 32 M
 res : Whole w (w0.heap.size + 1) 24 zPart
 prt : Whole w pb 24 #[.string ln, .string connB, .slice none 0 0]
 hpb : w0.heap.size ≤ pb
 hne : w0.heap.size + 1 ≠ pb
section
variable {w0 w w' : World} {M : Array Value} {pb : Nat} {ln : ByteArray}
theorem WB.under (h : WB w0 M pb ln w) (hb : Below w.heap.size w w') : WB w0 M pb ln w' := ⟨h.low.trans (hb.mono h.low.size), h.box.under hb, h.res.under hb, h.prt.under hb, h.hpb, h.hne⟩
theorem WB.drew (h : WB w0 M pb ln w) : WB w0 M pb ln w.drew := ⟨h.low.drew, h.box, h.res, h.prt, h.hpb, h.hne⟩
theorem WB.alloc (h : WB w0 M pb ln w) (o : Obj) : WB w0 M pb ln (w.alloc o) := h.under ((Below.refl _ w).alloc (Nat.le_refl _) o)
theorem WB.add {v v' : Value} {L : List AttrS} (h : WB w0 M pb ln w) (ho : AtR w w0.heap.size v L) (hg : Grew w v w' v') : WB w0 M pb ln w' :=
 ⟨h.low.trans (hg.below ho.base h.low.size), hg.whole h.box (Own.apart ho h.box (by decide)), hg.whole h.res (Own.apart ho h.res (by decide)), hg.whole h.prt (Own.apart ho h.prt (by decide)), h.hpb, h.hne⟩
theorem WB.line (h : WB w0 M pb ln w) (s : ByteArray) : WB w0 M pb s (w.setCell ⟨pb, 0, none⟩ (.string s)) :=
 ⟨h.low.setCell (p := ⟨pb, 0, none⟩) h.hpb _, h.box.far (p := ⟨pb, 0, none⟩) (h.box.ne h.prt (by decide)) _, h.res.far (p := ⟨pb, 0, none⟩) h.hne _, h.prt.set 0 _, h.hpb, h.hne⟩
theorem AtR.line {v : Value} {L : List AttrS} (h : WB w0 M pb ln w) (ho : AtR w w0.heap.size v L) (u : Value) (i : Nat) : AtR (w.setCell ⟨pb, i, none⟩ u) w0.heap.size v L := Own.far (p := ⟨pb, i, none⟩) ho (Own.apart ho h.prt (by decide)) u
end
def ItR (w0 : World) (M : Array Value) (pb : Nat) (ln : ByteArray) (g : Nat) (T : TypeId) (X : Array Value) (w : World) : Prop := WB w0 M pb ln w ∧ Whole w g T X
section
variable {w0 w w' : World} {M X : Array Value} {pb g : Nat} {ln : ByteArray} {T : TypeId}
theorem ItR.under (h : ItR w0 M pb ln g T X w) (hb : Below w.heap.size w w') : ItR w0 M pb ln g T X w' := ⟨h.1.under hb, h.2.under hb⟩
theorem ItR.drew (h : ItR w0 M pb ln g T X w) : ItR w0 M pb ln g T X w.drew := ⟨h.1.drew, h.2⟩
theorem ItR.alloc (h : ItR w0 M pb ln g T X w) (o : Obj) : ItR w0 M pb ln g T X (w.alloc o) := ⟨h.1.alloc o, h.2.alloc o⟩
theorem ItR.add {v v' : Value} {L : List AttrS} (h : ItR w0 M pb ln g T X w) (ho : AtR w w0.heap.size v L) (hT : 47 ≠ T) (hg : Grew w v w' v') : ItR w0 M pb ln g T X w' := ⟨h.1.add ho hg, hg.whole h.2 (Own.apart ho h.2 hT)⟩
theorem ItR.line (h : ItR w0 M pb ln g T X w) (hT : T ≠ 24) (s : ByteArray) : ItR w0 M pb s g T X (w.setCell ⟨pb, 0, none⟩ (.string s)) := ⟨h.1.line s, h.2.far (p := ⟨pb, 0, none⟩) (h.2.ne h.1.prt hT) _⟩
end
theorem semi_snoc : ∀ (L : List ByteArray) (r : ByteArray), semi (L ++ [r]) = if L = [] then tx r else semi L ++ 59 :: tx r
 | [], r => rfl
 | [a], r => by simp [semi]
 | a :: b :: l, r => by
   have := semi_snoc (b :: l) r
   rw [if_neg (by simp)] at this
   rw [if_neg (by simp)]
   show tx a ++ 59 :: semi (b :: l ++ [r]) = (tx a ++ 59 :: semi (b :: l)) ++ 59 :: tx r
   rw [this]
   simp
end Go.Proofs.YtlekmakofkpcdaaGreatDoor
