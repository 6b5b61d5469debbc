/- What the law WireKeeps leans on: a reader's Take; bytes as a string; a function's end behind two ranges over functions. -/
import Derived.Test.YtgcnocaibhiggaaRingNil
import Derived.Test.YtgcnocaibhiggaaTableNilSI
import Derived.Test.YtgcnocaibhiggaaRingsLoop
import Derived.Laws.BytesArg
namespace Go.Proofs.Ytgcnocaibhiggaa
open Go.RowKit Go.Shelf
set_option linter.unusedVariables false

def u8s (xs : List Int) : List Value := xs.map (Value.int .u8)
@[simp] theorem u8s_length (xs : List Int) : (u8s xs).length = xs.length := by simp [u8s]

/-- The cells of a block that begins with xs. -/
theorem row_cells {w : World} {g : Nat} {cur : Array Value} {xs rest : List Int} {m : Nat} (hg : Whole w g 5 cur) (hc : cur.toList.take m = u8s xs ++ u8s rest) : ∀ i, i < xs.length → w.cell? ((⟨g, 0, none⟩ : Addr).add i) = some (.int .u8 (xs.getD i 0)) := by
  intro i hi
  rw [Addr.add_lit, Nat.zero_add, hg.cell]
  refine take_get hc ?_
  rw [List.getElem?_append_left (by simpa using hi)]
  simp [u8s, List.getD, List.getElem?_eq_getElem hi]

set_option maxHeartbeats 1600000 in
/-- Take of all that is left, off a new reader. -/
theorem take_all (b n : Nat) (xs : List Int) (w0 w : World) (hx : xs.length = n) (hn : n ≤ 140737488355328) (h : NewRd w0 w b n (u8s xs)) :
    Calls Try.prog 30 #[.pointer (some ⟨b, 0, none⟩), .int .i64 n] w fun e w' => ∃ g cap cur, e = .returned (.slice (some ⟨g, 0, none⟩) n cap) ∧ w.heap.size ≤ g ∧ Whole w' g 5 cur ∧ n ≤ cap ∧ cap ≤ maxLen ∧ cur.toList.take n = u8s xs ∧ cur.size = cap ∧ Below w0.heap.size w0 w' := by
  obtain ⟨g0, cap0, cur0, hR, hg, hc, hl, hm, hg0, hb0, hB⟩ := h
  have hne : g0 ≠ b := Whole.ne hg hR (by decide)
  have hN := next_ok b ⟨g0, 0, none⟩ n cap0 n w hR (Nat.le_refl _) hl hm
  obtain ⟨W, hW⟩ : ∃ W, w.setCell ⟨b, 0, none⟩ (.slice (if cap0 = n then some ⟨g0, 0, none⟩ else some (Addr.add ⟨g0, 0, none⟩ n)) (n - n) (cap0 - n)) = W := ⟨_, rfl⟩
  rw [hW] at hN
  have hg2 : Whole W g0 5 cur0 := by rw [← hW]; exact hg.far (p := ⟨b, 0, none⟩) hne _
  have hz : W.heap.size = w.heap.size := by rw [← hW]; simp [World.setCell]
  have hB2 : Below w0.heap.size w0 W := by rw [← hW]; exact hB.setCell (p := ⟨b, 0, none⟩) hb0 _
  have hC := clone_at ⟨g0, 0, none⟩ n cap0 xs W hx hn (by
    intro i hi
    exact row_cells (rest := []) hg2 (by simpa [u8s] using hc) i (by omega))
  have HN := Lib.hid hN
  have HC := Lib.hid hC
  have HB := Lib.hid (And.intro hz hB2)
  clear hN hC hW hz hB2 hg2 hg hc hR hB hne
  go_enter Try.func30, Try.ntmps30
  go_wp2_with (first
    | (go_at_call 56; refine HN.out.mono ?_; rintro e w' ⟨rfl, rfl⟩)
    | (go_at_call 55; refine HC.out.mono ?_; rintro e w' ⟨v, rfl, hown, hne, hb⟩))
  go_ret
  obtain ⟨g, cap, cur, rfl, h1, h2, h3, h4, h7, h5⟩ := own_form hown hne
  have hz2 := HB.out.2.size
  exact ⟨g, cap, cur, rfl, by rw [← HB.out.1]; exact h1, h2, h3, h4, by simpa [u8s] using h5, by omega, HB.out.2.trans (hb.mono hz2)⟩

/-- Bytes as a string, wherever they lie. -/
theorem conv_any (w : World) (a : Addr) (len cap : Nat) (xs : List Int) (hlen : xs.length = len) (hcell : ∀ i, i < len → w.cell? (a.add i) = some (.int .u8 (xs.getD i 0))) :
    (convert 57 9 (.slice (some a) len cap)).run Try.prog w = .ok (.string (strOfNums xs)) w := by
  have hl : (loadCells a len).run Try.prog w = .ok (xs.map (Value.int .u8)).toArray w := by
    have := run_loadCells_list (P := Try.prog) w a (xs.map (Value.int .u8)) (fun j v hj => by
      have hjl : j < xs.length := by
        have := (List.getElem?_eq_some_iff.1 hj).1
        simpa using this
      rw [hcell j (by omega)]
      simp [List.getElem?_eq_getElem hjl] at hj
      subst hj
      simp [List.getD, List.getElem?_eq_getElem hjl])
    simpa [hlen] using this
  rw [run_convert_bytes_string w 57 9 5 _ len cap Try.underlying57 Try.underlying5 Try.underlying9, run_bytesToString w _ len cap xs hl, foldl_push_bytes]
  simp [strOfNums, ByteArray.empty, ByteArray.emptyWithCapacity]
  rfl

/-- A law's end behind two ranges over functions, its result in a slot. -/
theorem marks_end2 (n : Nat) (fn : Func) (t : Tmp) (hres : fn.results = #[ResultVar.tmp t]) {w W : World} {D1 D2 : Nat} (hne : D1 ≠ D2) (hB : Below w.heap.size w W)
    (hK1 : W.heap[D1]? = some (.deferred (some []))) (hK2 : W.heap[D2]? = some (.deferred (some []))) (hD1 : w.heap.size ≤ D1) (hD2 : w.heap.size ≤ D2) (tmps : Array Value) (ht : tmps.getD t undef = .bool true) :
    postM n Try.prog fn (fun e w' => e = .returned (.bool true) ∧ Below w.heap.size w w') .ret { tmps := tmps, defers := [{ target := .collected D2, args := #[] }, { target := .collected D1, args := #[] }] } W := by
  have hK1' : (W.putObj D2 (.deferred none)).heap[D1]? = some (.deferred (some [])) := (World.putObj_heap_other hne).trans hK1
  refine ⟨by simp, .inl ⟨_, _, rfl, run_takeDeferred hK2, ?_⟩⟩
  refine ⟨by simp, .inl ⟨_, _, rfl, run_takeDeferred hK1', ?_⟩⟩
  have hB2 := hB.trans (belowK_b (w := w) (Nat.le_refl _) W D2 _ (.deferred none) hD2 hK2 rfl rfl)
  have ht' : tmps[t]?.getD undef = .bool true := by simpa using ht
  refine ⟨.bool true, ?_, rfl, hB2.trans (belowK_b (w := w) (Nat.le_refl _) _ D1 _ _ hD1 hK1' rfl rfl)⟩
  simp [results, hres, ht']

end Go.Proofs.Ytgcnocaibhiggaa
