/- How the law WireTurned begins. -/
import Derived.Test.YtgcnocaibhiggaaTurnInv
namespace Go.Proofs.Ytgcnocaibhiggaa
open Go.RowKit Go.Shelf Go.Maps
set_option linter.unusedVariables false

/-- The law's three boxes. -/
structure Boxes (w W : World) (l : Value) (more : Int) : Prop where
  lst : Whole W w.heap.size 29 #[l]
  more : Whole W (w.heap.size + 1) 21 #[.int .i32 more]
  res : Whole W (w.heap.size + 2) 4 #[.bool false]
  below : Below w.heap.size w W
theorem boxes_start {w W : World} {l : Value} {more : Int}
    (hB : Below (((w.alloc (.cells #[l] 29)).alloc (.cells #[.int .i32 more] 21)).alloc (.cells #[.bool false] 4)).heap.size (((w.alloc (.cells #[l] 29)).alloc (.cells #[.int .i32 more] 21)).alloc (.cells #[.bool false] 4)) W) : Boxes w W l more := by
  have h1 := Whole.new (w.alloc (.cells #[l] 29)) 21 #[.int .i32 more]
  have h2 := Whole.new ((w.alloc (.cells #[l] 29)).alloc (.cells #[.int .i32 more] 21)) 4 #[.bool false]
  simp only [World.size_alloc] at h1 h2
  refine ⟨(((Whole.new w 29 #[l]).alloc _).alloc _).under hB, (h1.alloc _).under hB, h2.under hB, ?_⟩
  exact ((((Below.refl _ w).alloc (Nat.le_refl _) _).alloc (by simp) _).alloc (by simp; omega) _).trans (hB.mono (by simp; omega))
theorem Boxes.set {w W : World} {l : Value} {more : Int} (h : Boxes w W l more) (u : Value) : Boxes w (W.setCell ⟨w.heap.size, 0, none⟩ u) u more :=
  ⟨h.lst.set 0 u, h.more.far (p := ⟨w.heap.size, 0, none⟩) (by show _ ≠ w.heap.size; omega) u, h.res.far (p := ⟨w.heap.size, 0, none⟩) (by show _ ≠ w.heap.size; omega) u, h.below.setCell (p := ⟨w.heap.size, 0, none⟩) (Nat.le_refl _) u⟩
theorem Boxes.under {w W W' : World} {l : Value} {more : Int} (h : Boxes w W l more) (hb : Below W.heap.size W W') : Boxes w W' l more :=
  ⟨h.lst.under hb, h.more.under hb, h.res.under hb, h.below.trans (hb.mono h.below.size)⟩

set_option maxHeartbeats 800000 in
theorem newRing_eq (most : Int) (w : World) : Calls Try.prog 15 #[.int .i64 most] w fun e w' => e = .returned (.pointer (some ⟨w.heap.size, 0, none⟩)) ∧ w.alloc (.cells #[.int .i64 most, .slice none 0 0, .int .i64 0] 78) = w' := by
  go_enter Try.func15, Try.ntmps15
  go_wp2
  go_ret
  exact ⟨rfl, rfl⟩
set_option maxHeartbeats 800000 in
theorem newTable_eq (most : Int) (w : World) : Calls Try.prog 25 #[.int .i64 most] w fun e w' => e = .returned (.pointer (some ⟨w.heap.size, 0, none⟩)) ∧ w.alloc (.cells #[.int .i64 most, .map none, .pointer none, .pointer none] 94) = w' := by
  go_enter Try.func25, Try.ntmps25
  go_wp2
  go_ret
  exact ⟨rfl, rfl⟩

/-- Four new blocks. -/
theorem new4 (W : World) (o1 o2 o3 o4 : Obj) : (((((W.alloc o1).alloc o2).alloc o3).alloc o4).heap[W.heap.size]? = some o1) ∧ (((((W.alloc o1).alloc o2).alloc o3).alloc o4).heap[W.heap.size + 1]? = some o2) ∧ (((((W.alloc o1).alloc o2).alloc o3).alloc o4).heap[W.heap.size + 2]? = some o3) ∧
    (((((W.alloc o1).alloc o2).alloc o3).alloc o4).heap[W.heap.size + 3]? = some o4) ∧ Below W.heap.size W ((((W.alloc o1).alloc o2).alloc o3).alloc o4) := by
  refine ⟨?_, ?_, ?_, ?_, ((((Below.refl _ W).alloc (Nat.le_refl _) _).alloc (by simp) _).alloc (by simp; omega) _).alloc (by simp; omega) _⟩
  all_goals
    have n1 := World.alloc_heap_new W o1
    have n2 := World.alloc_heap_new (W.alloc o1) o2
    have n3 := World.alloc_heap_new ((W.alloc o1).alloc o2) o3
    have n4 := World.alloc_heap_new (((W.alloc o1).alloc o2).alloc o3) o4
    simp only [World.size_alloc] at n2 n3 n4
  · exact (Below.heap_alloc _ _ _ (by simp; omega)).trans ((Below.heap_alloc _ _ _ (by simp; omega)).trans ((Below.heap_alloc _ _ _ (by simp)).trans n1))
  · exact (Below.heap_alloc _ _ _ (by simp)).trans ((Below.heap_alloc _ _ _ (by simp)).trans n2)
  · exact (Below.heap_alloc _ _ _ (by simp)).trans n3
  · exact n4

theorem tinv_start {w W wc : World} {a : Option Addr} {n cap rB tB b tb : Nat} {more : Int} (hb : Boxes w wc (.slice a n cap) more) (hB : Below wc.heap.size wc W)
    (h1 : Whole W rB 30 #[.pointer (some ⟨b, 0, none⟩)]) (h2 : Whole W tB 52 #[.pointer (some ⟨tb, 0, none⟩)]) (h3 : Whole W b 78 #[.int .i64 ((n : Int) + 1), .slice none 0 0, .int .i64 0])
    (h4 : Whole W tb 94 #[.int .i64 ((n : Int) + 1), .map none, .pointer none, .pointer none]) (h5 : wc.heap.size ≤ b) (h6 : wc.heap.size ≤ tb) : TInv w W a n cap more rB tB b tb (.slice none 0 0) none 0 [] none [] := by
  have hz := hb.below.size
  refine ⟨hb.lst.under hB, hb.more.under hB, hb.res.under hB, h1, h2, ⟨h3, Sl.nil _ _⟩, ⟨h4, .inl ⟨rfl, rfl⟩, fun i x hi => (by simp at hi), by simp, by simp, by simp⟩, hb.below.trans (hB.mono hz), by simp, fun g e => (by cases e), by omega, ?_⟩
  rintro j (rfl | e | ⟨x, hx, _⟩)
  · omega
  · cases e
  · simp at hx


theorem tinv_perm {w wc : World} {a : Option Addr} {n cap rB tB b tb : Nat} {more : Int} {o1 o2 o3 o4 : Obj} (hb : Boxes w wc (.slice a n cap) more)
    (p : ∀ W : World, W.heap[wc.heap.size]? = some o1 → W.heap[wc.heap.size + 1]? = some o2 → W.heap[wc.heap.size + 1 + 1]? = some o3 → W.heap[wc.heap.size + 1 + 1 + 1]? = some o4 →
      Whole W rB 30 #[.pointer (some ⟨b, 0, none⟩)] ∧ Whole W tB 52 #[.pointer (some ⟨tb, 0, none⟩)] ∧ Whole W b 78 #[.int .i64 ((n : Int) + 1), .slice none 0 0, .int .i64 0] ∧ Whole W tb 94 #[.int .i64 ((n : Int) + 1), .map none, .pointer none, .pointer none])
    (h5 : wc.heap.size ≤ b) (h6 : wc.heap.size ≤ tb) : TInv w ((((wc.alloc o1).alloc o2).alloc o3).alloc o4).drew a n cap more rB tB b tb (.slice none 0 0) none 0 [] none [] := by
  obtain ⟨h1, h2, h3, h4, hB⟩ := new4 wc o1 o2 o3 o4
  obtain ⟨q1, q2, q3, q4⟩ := p _ h1 h2 h3 h4
  exact (tinv_start hb hB q1 q2 q3 q4 h5 h6).drew


/-- Three new blocks. -/
theorem new3 (W : World) (o1 o2 o3 : Obj) : (((W.alloc o1).alloc o2).alloc o3).heap[W.heap.size]? = some o1 ∧ (((W.alloc o1).alloc o2).alloc o3).heap[W.heap.size + 1]? = some o2 ∧ (((W.alloc o1).alloc o2).alloc o3).heap[W.heap.size + 1 + 1]? = some o3 ∧
    Below W.heap.size W (((W.alloc o1).alloc o2).alloc o3) ∧ (((W.alloc o1).alloc o2).alloc o3).heap.size = W.heap.size + 3 := by
  refine ⟨?_, ?_, ?_, (((Below.refl _ W).alloc (Nat.le_refl _) _).alloc (by simp) _).alloc (by simp; omega) _, by simp⟩
  all_goals
    have n1 := World.alloc_heap_new W o1
    have n2 := World.alloc_heap_new (W.alloc o1) o2
    have n3 := World.alloc_heap_new ((W.alloc o1).alloc o2) o3
    simp only [World.size_alloc] at n2 n3
  · exact (Below.heap_alloc _ _ _ (by simp; omega)).trans ((Below.heap_alloc _ _ _ (by simp)).trans n1)
  · exact (Below.heap_alloc _ _ _ (by simp)).trans n2
  · exact n3


/-- A law's end behind two ranges over functions, its result in a cell. -/
theorem marks_end_cell2 (n : Nat) (fn : Func) (t : Tmp) (hres : fn.results = #[ResultVar.cell t 4]) {w W : World} {D1 D2 rb : Nat} {old : Value} (hne : D1 ≠ D2) (hB : Below w.heap.size w W) (hrc : W.cell? ⟨rb, 0, none⟩ = some old)
    (hK1 : W.heap[D1]? = some (.deferred (some []))) (hK2 : W.heap[D2]? = some (.deferred (some []))) (hD1 : w.heap.size ≤ D1) (hD2 : w.heap.size ≤ D2) (hrb : w.heap.size ≤ rb) (tmps : Array Value) (ht : tmps.getD t undef = .pointer (some ⟨rb, 0, none⟩)) :
    postM n Try.prog fn (fun e w' => e = .returned (.bool true) ∧ Below w.heap.size w w') .ret { tmps := tmps, defers := [{ target := .collected D2, args := #[] }, { target := .collected D1, args := #[] }] } (W.setCell ⟨rb, 0, none⟩ (.bool true)) := by
  have hK1s := (KeepsOthers.setCell W ⟨rb, 0, none⟩ (.bool true)).same D1 _ hK1 rfl
  have hK2s := (KeepsOthers.setCell W ⟨rb, 0, none⟩ (.bool true)).same D2 _ hK2 rfl
  have hK1' : ((W.setCell ⟨rb, 0, none⟩ (.bool true)).putObj D2 (.deferred none)).heap[D1]? = some (.deferred (some [])) := (World.putObj_heap_other hne).trans hK1s
  refine ⟨by simp, .inl ⟨_, _, rfl, run_takeDeferred hK2s, ?_⟩⟩
  refine ⟨by simp, .inl ⟨_, _, rfl, run_takeDeferred hK1', ?_⟩⟩
  have hc5 := cell_kept (World.cell?_setCell_same' W ⟨rb, 0, none⟩ (.bool true) (by rw [hrc]; rfl)) (grownBy_putObj' _ D2 (.deferred none)) (fun r e => by cases e; exact ⟨_, hK2s, rfl⟩)
  have hc6 := cell_kept hc5 (grownBy_putObj' _ D1 (.deferred none)) (fun r e => by cases e; exact ⟨_, hK1', rfl⟩)
  have hB2 := (hB.setCell (p := ⟨rb, 0, none⟩) hrb (.bool true)).trans (belowK_b (w := w) (Nat.le_refl _) (W.setCell ⟨rb, 0, none⟩ (.bool true)) D2 _ (.deferred none) hD2 hK2s rfl rfl)
  refine ⟨.bool true, ?_, rfl, hB2.trans (belowK_b (w := w) (Nat.le_refl _) _ D1 _ (.deferred none) hD1 hK1' rfl rfl)⟩
  have ht' : tmps[t]?.getD undef = .pointer (some ⟨rb, 0, none⟩) := by simpa using ht
  simp [results, hres, go_sem, ht', hc6]

theorem offD {W : World} {tb D : Nat} {most : Int} {mv : Option Nat} {L : List (Ent KeyIX)} (h : TabIX W tb most mv L) (hD : W.heap[D]? = some (.deferred (some []))) : ¬ TabSIX tb mv L D :=
  h.notCells hD rfl (fun e => by
    rcases h.map with ⟨e2, _⟩ | ⟨mb, M, e2, ⟨es, clock, hb, _⟩, _⟩
    · rw [e2] at e; cases e
    · rw [e2] at e
      cases e
      rw [hD] at hb
      cases hb)


/-- A round's Drop and Put, in the pairs. -/
theorem turned_pairs {zs : List Int} {more : Int} {n p : Nat} {L2 L3 L4 : List (Ent KeyIX)} {r3 r4 : Bool} (hp : p < n) (hL2 : pairsIX L2 = QQ zs more n p)
    (hd : ∀ i u g, L2[i]? = some ((p : Int), u, g) → r3 = true ∧ pairsIX L3 = (pairsIX L2).eraseIdx i) (hl3 : L3.length ≤ L2.length)
    (hput : blkOf L3 ((n : Int) + (p : Int)) = none → (L3.length : Int) < max ((n : Int) + 1) 1 → r4 = true ∧ pairsIX L4 = pairsIX L3 ++ [((n : Int) + (p : Int), more)]) : pairsIX L4 = QQ zs more n (p + 1) := by
  obtain ⟨h1, h2, h3⟩ := QQ_head zs more hp
  have hl2 : L2.length = n := by rw [← pairs_lengthIX, hL2, QQ_length zs more (by omega)]
  have e3 : pairsIX L3 = (QQ zs more n p).tail := by
    cases L2 with
    | nil => simp at hl2; omega
    | cons y rest =>
      obtain ⟨yk, yv, yg⟩ := y
      have e := hL2
      rw [h1] at e
      have e0 : pairsIX ((yk, yv, yg) :: rest) = (yk, yv) :: pairsIX rest := rfl
      rw [e0] at e
      injection e with e1 e2
      have e5 : yk = (p : Int) := congrArg Prod.fst e1
      obtain ⟨_, e4⟩ := hd 0 yv yg (by rw [← e5]; rfl)
      rw [e4, hL2, List.eraseIdx_zero]
  have hc : ((n + p : Nat) : Int) = (n : Int) + (p : Int) := by omega
  rw [hc] at h2 h3
  obtain ⟨_, e4⟩ := hput (by rw [blkOf_pairsIX, e3]; exact h3) (by omega)
  rw [e4, e3]
  exact h2

end Go.Proofs.Ytgcnocaibhiggaa
