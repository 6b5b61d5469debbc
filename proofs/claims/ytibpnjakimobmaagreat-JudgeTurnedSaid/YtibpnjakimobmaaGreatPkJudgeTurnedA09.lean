import Derived.Test.YtibpnjakimobmaaGreatPkJudgeTurnedA08
import Derived.Test.YtibpnjakimobmaaGreatPkJudgeTurnedA03
namespace Go.Proofs.YtibpnjakimobmaaGreat
open Go.RowKit
set_option linter.unusedVariables false
set_option linter.unusedSimpArgs false
structure Fix4 (w W : World) (b : Nat) (D K Y Z : Array Value) : Prop where
 low : Below b w W
 d : Whole W b 26 D
 k : Whole W (b + 1) 29 K
 y : Whole W (b + 2) 30 Y
 z : Whole W (b + 3) 26 Z
section
variable {w W W' : World} {b : Nat} {D K Y Z : Array Value}
theorem Fix4.le (h : Fix4 w W b D K Y Z) : b + 4 ≤ W.heap.size := h.z.lt
theorem Fix4.only {T : Nat → Prop} (h : Fix4 w W b D K Y Z) (k : Only T W W') (hT : ∀ j, T j → b + 4 ≤ j) : Fix4 w W' b D K Y Z :=
 ⟨h.low.trans (k.below (fun j hj => by have := hT j hj; omega) (by have := h.le; omega)), h.d.only k (fun e => by have := hT _ e; omega), h.k.only k (fun e => by have := hT _ e; omega), h.y.only k (fun e => by have := hT _ e; omega), h.z.only k (fun e => by have := hT _ e; omega)⟩
theorem Fix4.under (h : Fix4 w W b D K Y Z) (hb : Below W.heap.size W W') : Fix4 w W' b D K Y Z :=
 ⟨h.low.trans (hb.mono (by have := h.le; omega)), h.d.under hb, h.k.under hb, h.y.under hb, h.z.under hb⟩
end
theorem boxes4 (w : World) (D K Y Z : Array Value) : Fix4 w ((((w.alloc (.cells D 26)).alloc (.cells K 29)).alloc (.cells Y 30)).alloc (.cells Z 26)) w.heap.size D K Y Z := by
 have h0 := (two_new (w := w) 26 29 D K)
 have h1 := Whole.new2 w (.cells D 26) 29 K
 have h2 := Whole.new2 (w.alloc (.cells D 26)) (.cells K 29) 30 Y
 have h3 := Whole.new2 ((w.alloc (.cells D 26)).alloc (.cells K 29)) (.cells Y 30) 26 Z
 rw [World.size_alloc] at h2
 rw [World.size_alloc, World.size_alloc] at h3
 exact ⟨(h0.alloc h0.size _).alloc (h0.alloc h0.size _).size _, (((Whole.new w _ _).alloc _).alloc _).alloc _, (h1.alloc _).alloc _, h2.alloc _, h3⟩
def RowM (W : World) (r : List Value) (m : MediaS) : Prop := ∃ vC vE vR vY, MediaV W W.heap.size r.toArray m vC vE vR (.slice none 0 0) vY
def TM (b gO : Nat) (uB uM : Value) (j : Nat) : Prop := (b ≤ j ∧ j < b + 4) ∨ j = gO ∨ uB.ownBlock = some j ∨ uM.ownBlock = some j
structure MkI (wr : World) (b gO : Nat) (ms : List MediaS) (uB uM : Value) (rows : List (List Value)) : Prop where
 ownB : Own wr (b + 4) 9 1 uB ((takenMids ms).map tcell)
 ownM : Own wr (b + 4) 44 11 uM rows
 len : rows.length = ms.length
 held : ∀ (i : Nat) (r : List Value) (m : MediaS), rows[i]? = some r → ms[i]? = some m → Held wr (TM b gO uB uM) (fun W => RowM W r m)
theorem MkI.nil (wr : World) (b gO : Nat) : MkI wr b gO [] (.slice none 0 0) (.slice none 0 0) [] := ⟨Own.nil _ _ _ _, Own.nil _ _ _ _, rfl, fun i r m h => by simp at h⟩
theorem MkI.under {wr w' : World} {b gO : Nat} {ms : List MediaS} {uB uM : Value} {rows : List (List Value)} (h : MkI wr b gO ms uB uM rows) (hb : Below wr.heap.size wr w') : MkI w' b gO ms uB uM rows :=
 ⟨h.ownB.under hb, h.ownM.under hb, h.len, fun i r m h1 h2 => (h.held i r m h1 h2).under hb⟩
theorem MkI.all {wr : World} {b gO : Nat} {ms : List MediaS} {uB uM : Value} {rows : List (List Value)} (h : MkI wr b gO ms uB uM rows) {cs : Array Value} (hO : Whole wr gO 26 cs) (d : DescS) (hd1 : d.bundle = takenMids ms) (hd2 : d.media = ms) :
 Held wr (fun j => (b ≤ j ∧ j < b + 4) ∨ j = gO) (fun W => DescV W W.heap.size #[.int .u64 d.id, .int .u64 d.ver, uB, .string d.name, .string d.pass, uM] d uB uM) := fun W hW => by
 have hB := h.ownB.keep (w' := W) fun g cs' hg hw => hw.only hW (fun e => by
  rcases e with e | e
  · have := (h.ownB.lt hg).1; omega
  · exact h.ownB.apart hO (by decide) (by rw [hg, e]))
 have hM := h.ownM.keep (w' := W) fun g cs' hg hw => hw.only hW (fun e => by
  rcases e with e | e
  · have := (h.ownM.lt hg).1; omega
  · exact h.ownM.apart hO (by decide) (by rw [hg, e]))
 refine ⟨rfl, by rw [hd1]; exact hB.texts (Nat.le_refl _), ?_⟩
 rw [hd2]
 refine Own.rows hM (Nat.le_refl _) h.len.symm fun i r m f hr hx hf => ?_
 obtain ⟨vC, vE, vR, vY, hm⟩ := h.held i r m hr hx W (hW.mono fun j hj => hj.elim .inl fun e => .inr (.inl e))
 refine ⟨r.toArray, vC, vE, vR, .slice none 0 0, vY, hm, fun j hj => ?_⟩
 rw [hf j hj]
 simp
theorem MkI.step {wr w' : World} {b gO : Nat} {ms : List MediaS} {uB uM uB' uM' : Value} {rows : List (List Value)} {m : MediaS} {r : List Value} {U : Nat → Prop} (h : MkI wr b gO ms uB uM rows)
 (k : Only U wr w') (hU : ∀ j, U j → j = gO ∨ uB.ownBlock = some j ∨ uM.ownBlock = some j ∨ wr.heap.size ≤ j)
 (hB : Own w' (b + 4) 9 1 uB' ((takenMids (ms ++ [m])).map tcell)) (hM : Own w' (b + 4) 44 11 uM' (rows ++ [r]))
 (nB : uB'.ownBlock = uB.ownBlock ∨ ∃ g, uB'.ownBlock = some g ∧ wr.heap.size ≤ g) (nM : uM'.ownBlock = uM.ownBlock ∨ ∃ g, uM'.ownBlock = some g ∧ wr.heap.size ≤ g)
 (hr : Held w' (TM b gO uB' uM') (fun W => RowM W r m)) : MkI w' b gO (ms ++ [m]) uB' uM' (rows ++ [r]) := by
 refine ⟨hB, hM, by simp [h.len], fun i r2 m2 h1 h2 => ?_⟩
 by_cases hi : i < rows.length
 · rw [List.getElem?_append_left hi] at h1
   rw [List.getElem?_append_left (by rw [← h.len]; exact hi)] at h2
   refine (h.held i r2 m2 h1 h2).step k (fun j hj => ?_) (fun j hj => ?_)
   · rcases hU j hj with e | e | e | e
     · exact .inl (.inr (.inl e))
     · exact .inl (.inr (.inr (.inl e)))
     · exact .inl (.inr (.inr (.inr e)))
     · exact .inr e
   · rcases hj with e | e | e | e
     · exact .inl (.inl e)
     · exact .inl (.inr (.inl e))
     · rcases nB with q | ⟨g, q, hg⟩
       · exact .inl (.inr (.inr (.inl (by rw [← q]; exact e))))
       · rw [q] at e
         obtain rfl := Option.some.inj e
         exact .inr hg
     · rcases nM with q | ⟨g, q, hg⟩
       · exact .inl (.inr (.inr (.inr (by rw [← q]; exact e))))
       · rw [q] at e
         obtain rfl := Option.some.inj e
         exact .inr hg
 · have hlr : i = rows.length := by
    have := (List.getElem?_eq_some_iff.1 h1).1
    simp at this
    omega
   subst hlr
   rw [List.getElem?_append_right (Nat.le_refl _), Nat.sub_self] at h1
   rw [List.getElem?_append_right (by rw [h.len]; exact Nat.le_refl _), h.len, Nat.sub_self] at h2
   obtain rfl := Option.some.inj h1
   obtain rfl := Option.some.inj h2
   exact hr
theorem commonC_mem {c : ConfigS} {L : List CodecS} {x : CodecS} (h : x ∈ commonC c L) : ∃ o ∈ L, ∃ y, x = withF o y := by
 unfold commonC at h
 obtain ⟨o, ho, h2⟩ := List.mem_filterMap.1 h
 obtain ⟨y, _, rfl⟩ := Option.map_eq_some_iff.1 h2
 exact ⟨o, ho, y, rfl⟩
theorem sizM_made {B : List ByteArray} {c : ConfigS} {key : Tx} {m : MediaS} (h : SizM m) (hk : key.length = 30) : SizM (mediaA B c key m) := by
 unfold mediaA
 split
 · refine ⟨h.mid, fun x hx => ?_, fun x hx => ?_, fun x hx => h.uris x (List.mem_filter.1 hx).1, fun x hx => ?_, ⟨fun n hn => (by cases hn), fun x hx => ?_⟩, ?_⟩
   · obtain ⟨o, ho, y, rfl⟩ := commonC_mem hx
     have := h.names o ho
     exact ⟨this.1, this.2.1, fun f hf => this.2.2 f (List.mem_filter.1 hf).1⟩
   · obtain ⟨o, ho, y, rfl⟩ := commonC_mem hx
     exact Nat.le_trans (List.length_filter_le _ _) (h.feeds o ho)
   · simp only [takeA] at hx
     split at hx
     · exact h.rids x hx
     · cases hx
   · simp only [takeA] at hx
     obtain ⟨y, _, rfl⟩ := List.mem_map.1 hx
     exact hk
   · obtain ⟨h1, h2, h3, h4, h5⟩ := h.counts
     refine ⟨Nat.le_trans (List.length_filterMap_le _ _) h1, Nat.le_trans (List.length_filter_le _ _) h2, ?_, Nat.zero_le _, by simp only [takeA, List.length_map]; exact h5⟩
     simp only [takeA]
     split
     · exact h3
     · exact Nat.zero_le _
 · exact ⟨h.mid, h.names, h.feeds, fun x hx => (by cases hx), fun x hx => (by cases hx), ⟨fun n hn => (by cases hn), fun x hx => (by cases hx)⟩, h.counts.1, Nat.zero_le _, Nat.zero_le _, Nat.zero_le _, Nat.zero_le _⟩
theorem sizD_made {d : DescS} {c : ConfigS} {key : Tx} {id : Nat} {name pass : ByteArray} (h : SizD d) (hk : key.length = 30) (hid : id < 18446744073709551616) (hn : name.size ≤ 140737488355328) (hp : pass.size ≤ 140737488355328) : SizD (descA d c id name pass key) := by
 have hmid : ∀ m, (mediaA d.bundle c key m).mid = m.mid := fun m => by unfold mediaA; split <;> rfl
 refine ⟨hn, hp, fun x hx => ?_, ?_, by simp only [descA, List.length_map]; exact h.few, fun m hm => ?_, hid, h.ids.2⟩
 · obtain ⟨m, hm, rfl⟩ := List.mem_map.1 hx
   obtain ⟨o, ho, rfl⟩ := List.mem_map.1 (List.mem_filter.1 hm).1
   rw [hmid]
   exact (h.media o ho).mid
 · simp only [descA, takenMids, List.length_map]
   refine Nat.le_trans (List.length_filter_le _ _) ?_
   rw [List.length_map]
   exact Nat.le_trans h.few (by decide)
 · obtain ⟨o, ho, rfl⟩ := List.mem_map.1 hm
   exact sizM_made (h.media o ho) hk
end Go.Proofs.YtibpnjakimobmaaGreat
