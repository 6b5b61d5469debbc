/- The law WireTables: two appends of one statement, in whatever order. -/
import Derived.Test.YtgcnocaibhiggaaTablesInv
import Derived.Test.YtgcnocaibhiggaaLate
namespace Go.Proofs.Ytgcnocaibhiggaa
open Go.RowKit Go.Shelf Go.Maps
set_option linter.unusedVariables false

theorem Whole.new1 (w : World) (o : Obj) (t : TypeId) (cs : Array Value) : Whole ((w.alloc o).alloc (.cells cs t)) (w.heap.size + 1) t cs := by
  have := Whole.new (w.alloc o) t cs
  rwa [World.size_alloc] at this

/-- What is known in the midst of the statement. -/
structure Mid (w0 W : World) (kB vB cB : Nat) (kv0 vv0 : Value) (ccs : Array Value) (kob0 vob0 : Option Nat) (kv : Value) (kxs : List Value) (kob : Option Nat) (vv : Value) (vxs : List Value) (vob : Option Nat) : Prop where
  only : Only (fun j => kob0 = some j ∨ vob0 = some j) w0 W
  kbox : Whole W kB 42 #[kv0]
  vbox : Whole W vB 29 #[vv0]
  call : Whole W cB 44 ccs
  keys : Sl W 9 kv kxs kob
  vals : Sl W 21 vv vxs vob
  kin : ∀ g, kob = some g → kob0 = some g ∨ w0.heap.size ≤ g
  vin : ∀ g, vob = some g → vob0 = some g ∨ w0.heap.size ≤ g

section
variable {w0 W w1 : World} {kB vB cB : Nat} {kv0 vv0 : Value} {ccs : Array Value} {kob0 vob0 : Option Nat} {kv : Value} {kxs : List Value} {kob : Option Nat} {vv : Value} {vxs : List Value} {vob : Option Nat}

theorem Mid.drew (h : Mid w0 W kB vB cB kv0 vv0 ccs kob0 vob0 kv kxs kob vv vxs vob) : Mid w0 W.drew kB vB cB kv0 vv0 ccs kob0 vob0 kv kxs kob vv vxs vob :=
  ⟨h.only.drew, h.kbox, h.vbox, h.call, h.keys, h.vals, h.kin, h.vin⟩
theorem Mid.alloc (h : Mid w0 W kB vB cB kv0 vv0 ccs kob0 vob0 kv kxs kob vv vxs vob) (o : Obj) : Mid w0 (W.alloc o) kB vB cB kv0 vv0 ccs kob0 vob0 kv kxs kob vv vxs vob :=
  ⟨h.only.alloc o, h.kbox.alloc o, h.vbox.alloc o, h.call.alloc o, h.keys.alloc o, h.vals.alloc o, h.kin, h.vin⟩
theorem Mid.onK (h : Mid w0 W kB vB cB kv0 vv0 ccs kob0 vob0 kv kxs kob vv vxs vob) {v' : Value} {xs' : List Value} {g : Nat} (hs : Sl w1 9 v' xs' (some g)) (hg : W.grownBy w1 kob) (hat : kob = some g ∨ W.heap.size ≤ g) :
    Mid w0 w1 kB vB cB kv0 vv0 ccs kob0 vob0 v' xs' (some g) vv vxs vob :=
  ⟨h.only.grown hg (fun k e => (h.kin k e).elim (fun e => .inl (.inl e)) .inr), h.kbox.grown hg (fun e => h.keys.ne_whole h.kbox (by decide) e.symm), h.vbox.grown hg (fun e => h.keys.ne_whole h.vbox (by decide) e.symm), h.call.grown hg (fun e => h.keys.ne_whole h.call (by decide) e.symm), hs,
    h.vals.keep (fun g' cs e hw => hw.grown hg (fun e2 => h.keys.ne_whole hw (by decide) e2.symm)), fun g' e => by
      cases e
      rcases hat with e | e
      · exact h.kin _ e
      · exact .inr (Nat.le_trans h.only.size e), h.vin⟩
theorem Mid.onV (h : Mid w0 W kB vB cB kv0 vv0 ccs kob0 vob0 kv kxs kob vv vxs vob) {v' : Value} {xs' : List Value} {g : Nat} (hs : Sl w1 21 v' xs' (some g)) (hg : W.grownBy w1 vob) (hat : vob = some g ∨ W.heap.size ≤ g) :
    Mid w0 w1 kB vB cB kv0 vv0 ccs kob0 vob0 kv kxs kob v' xs' (some g) :=
  ⟨h.only.grown hg (fun k e => (h.vin k e).elim (fun e => .inl (.inr e)) .inr), h.kbox.grown hg (fun e => h.vals.ne_whole h.kbox (by decide) e.symm), h.vbox.grown hg (fun e => h.vals.ne_whole h.vbox (by decide) e.symm), h.call.grown hg (fun e => h.vals.ne_whole h.call (by decide) e.symm),
    h.keys.keep (fun g' cs e hw => hw.grown hg (fun e2 => h.vals.ne_whole hw (by decide) e2.symm)), hs, h.kin, fun g' e => by
      cases e
      rcases hat with e | e
      · exact h.vin _ e
      · exact .inr (Nat.le_trans h.only.size e)⟩

/-- The cells that the statement reads and writes. -/
def Seen (kB vB cB : Nat) (kv0 vv0 : Value) (key : ByteArray) (nm : Int) (W : World) : Prop :=
  W.cell? ⟨kB, 0, none⟩ = some kv0 ∧ W.frozen? ⟨kB, 0, none⟩ = false ∧ W.cell? ⟨vB, 0, none⟩ = some vv0 ∧ W.frozen? ⟨vB, 0, none⟩ = false ∧ W.cell? ⟨cB, 1, none⟩ = some (.string key) ∧ W.cell? ⟨cB, 2, none⟩ = some (.int .i32 nm)
theorem Mid.seen {kd nm : Int} {key : ByteArray} (h : Mid w0 W kB vB cB kv0 vv0 #[.int .i64 kd, .string key, .int .i32 nm] kob0 vob0 kv kxs kob vv vxs vob) : Seen kB vB cB kv0 vv0 key nm W :=
  ⟨by have := h.kbox.cell 0; simpa using this, h.kbox.frz 0, by have := h.vbox.cell 0; simpa using this, h.vbox.frz 0, by have := h.call.cell 1; simpa using this, by have := h.call.cell 2; simpa using this⟩

/-- Of them those that are read alone. -/
def Seen2 (cB : Nat) (key : ByteArray) (nm : Int) (W : World) : Prop := W.cell? ⟨cB, 1, none⟩ = some (.string key) ∧ W.cell? ⟨cB, 2, none⟩ = some (.int .i32 nm)
theorem seen2 {kd nm : Int} {key : ByteArray} (h : Whole W cB 44 #[.int .i64 kd, .string key, .int .i32 nm]) : Seen2 cB key nm W := ⟨by have := h.cell 1; simpa using this, by have := h.cell 2; simpa using this⟩
theorem Mid.seen2 {kd nm : Int} {key : ByteArray} (h : Mid w0 W kB vB cB kv0 vv0 #[.int .i64 kd, .string key, .int .i32 nm] kob0 vob0 kv kxs kob vv vxs vob) : Seen2 cB key nm W := Go.Proofs.Ytgcnocaibhiggaa.seen2 h.call
theorem Mid.seen2k {kd nm : Int} {key : ByteArray} (h : Mid w0 W kB vB cB kv0 vv0 #[.int .i64 kd, .string key, .int .i32 nm] kob0 vob0 kv kxs kob vv vxs vob) (u : Value) : Seen2 cB key nm (W.setCell ⟨kB, 0, none⟩ u) := Go.Proofs.Ytgcnocaibhiggaa.seen2 (h.call.far (p := ⟨kB, 0, none⟩) (h.call.ne h.kbox (by decide)) u)
theorem Mid.seen2kv {kd nm : Int} {key : ByteArray} (h : Mid w0 W kB vB cB kv0 vv0 #[.int .i64 kd, .string key, .int .i32 nm] kob0 vob0 kv kxs kob vv vxs vob) (u u' : Value) : Seen2 cB key nm ((W.setCell ⟨kB, 0, none⟩ u).setCell ⟨vB, 0, none⟩ u') :=
  Go.Proofs.Ytgcnocaibhiggaa.seen2 ((h.call.far (p := ⟨kB, 0, none⟩) (h.call.ne h.kbox (by decide)) u).far (p := ⟨vB, 0, none⟩) (h.call.ne h.vbox (by decide)) u')

/-- What the region's loads see. -/
abbrev Till (kB vB cB : Nat) (kv0 vv0 : Value) (key : ByteArray) (nm : Int) : Array Bool → World → Prop :=
  TillTwo (Seen2 cB key nm) (fun W => W.cell? ⟨kB, 0, none⟩ = some kv0) (fun W => W.cell? ⟨vB, 0, none⟩ = some vv0) 10 11
theorem Mid.till {kd nm : Int} {key : ByteArray} (h : Mid w0 W kB vB cB kv0 vv0 #[.int .i64 kd, .string key, .int .i32 nm] kob0 vob0 kv kxs kob vv vxs vob) (L : Array Bool) : Till kB vB cB kv0 vv0 key nm L W :=
  TillTwo.mk h.seen2 (.inr h.seen.1) (.inr h.seen.2.2.1)
theorem Mid.till1 {kd nm : Int} {key : ByteArray} (h : Mid w0 W kB vB cB kv0 vv0 #[.int .i64 kd, .string key, .int .i32 nm] kob0 vob0 kv kxs kob vv vxs vob) (L : Array Bool) (hL : L.getD 10 true = true) (u : Value) : Till kB vB cB kv0 vv0 key nm L (W.setCell ⟨kB, 0, none⟩ u) :=
  TillTwo.mk (h.seen2k u) (.inl hL) (.inr (by have := (h.vbox.far (p := ⟨kB, 0, none⟩) (h.vbox.ne h.kbox (by decide)) u).cell 0; simpa using this))
theorem Mid.till2 {kd nm : Int} {key : ByteArray} (h : Mid w0 W kB vB cB kv0 vv0 #[.int .i64 kd, .string key, .int .i32 nm] kob0 vob0 kv kxs kob vv vxs vob) (L : Array Bool) (h1 : L.getD 10 true = true) (h2 : L.getD 11 true = true) (u u' : Value) : Till kB vB cB kv0 vv0 key nm L ((W.setCell ⟨kB, 0, none⟩ u).setCell ⟨vB, 0, none⟩ u') :=
  TillTwo.mk (h.seen2kv u u') (.inl h1) (.inl h2)

variable {P : Program} {ops : Array Oper} {o : Oper} {a : Act} {K : Act → World → Prop} {Q : Exit → Act → World → Prop} {E : Prop}

/-- The append to the keys. -/
theorem step_app_k (h : Mid w0 W kB vB cB kv0 vv0 ccs kob0 vob0 kv kxs kob vv vxs vob) (hgd : o.guard = none) (s y : Operand) (t : TypeId)
    (ho : o.op = .call { callee := .builtin .append, args := #[s, y], argTypes := #[t, t] })
    (i : TypeInfo) (z : Value) (bytes : Nat) (ht : P.underlying t = some (.slice 9)) (hi : P.info? 9 = some i) (hz : i.zero = some z) (hsize : i.size = 1) (hby : i.bytes = bytes) (hzs : z.cells.size = 1)
    (hs : a.eval s = kv) (n : Nat) (hn : kxs.length = n) (ad : Addr) (c : Nat) (hy : a.eval y = .slice (some ad) 1 c) (x : ByteArray) (hx : W.cell? ad = some (.string x)) (h63 : n ≤ 1000000) (hbytes : bytes ≤ 100)
    (hK : ∀ g off cap w', Mid w0 w' kB vB cB kv0 vv0 ccs kob0 vob0 (.slice (some ⟨g, off, none⟩) (n + 1) cap) (kxs ++ [.string x]) (some g) vv vxs vob → (∀ g2 cs, Whole W g2 21 cs → Whole w' g2 21 cs) → W.heap.size ≤ w'.heap.size → K (a.put o.dst (.slice (some ⟨g, off, none⟩) (n + 1) cap)) w') :
    if Region.wanted o (yielded ops a.tmps) = true then Oper.wp P o a W K Q else E :=
  step_append_sl hgd s y t ho i z bytes ht hi hz hsize hby hzs hs n hn h.keys ad c hy _ hx rfl (by unfold maxLen; omega) (by have := Nat.mul_le_mul (show n + 1 ≤ 1000001 by omega) hbytes; omega)
    fun g off cap w' hS hg hat => hK g off cap w' (h.onK hS hg hat) (fun g2 cs hw => hw.grown hg (fun e => h.keys.ne_whole hw (by decide) e.symm)) hg.size

/-- The append to the values. -/
theorem step_app_v (h : Mid w0 W kB vB cB kv0 vv0 ccs kob0 vob0 kv kxs kob vv vxs vob) (hgd : o.guard = none) (s y : Operand) (t : TypeId)
    (ho : o.op = .call { callee := .builtin .append, args := #[s, y], argTypes := #[t, t] })
    (i : TypeInfo) (z : Value) (bytes : Nat) (ht : P.underlying t = some (.slice 21)) (hi : P.info? 21 = some i) (hz : i.zero = some z) (hsize : i.size = 1) (hby : i.bytes = bytes) (hzs : z.cells.size = 1)
    (hs : a.eval s = vv) (n : Nat) (hn : vxs.length = n) (ad : Addr) (c : Nat) (hy : a.eval y = .slice (some ad) 1 c) (x : Int) (hx : W.cell? ad = some (.int .i32 x)) (h63 : n ≤ 1000000) (hbytes : bytes ≤ 100)
    (hK : ∀ g off cap w', Mid w0 w' kB vB cB kv0 vv0 ccs kob0 vob0 kv kxs kob (.slice (some ⟨g, off, none⟩) (n + 1) cap) (vxs ++ [.int .i32 x]) (some g) → (∀ g2 cs, Whole W g2 9 cs → Whole w' g2 9 cs) → W.heap.size ≤ w'.heap.size → K (a.put o.dst (.slice (some ⟨g, off, none⟩) (n + 1) cap)) w') :
    if Region.wanted o (yielded ops a.tmps) = true then Oper.wp P o a W K Q else E :=
  step_append_sl hgd s y t ho i z bytes ht hi hz hsize hby hzs hs n hn h.vals ad c hy _ hx rfl (by unfold maxLen; omega) (by have := Nat.mul_le_mul (show n + 1 ≤ 1000001 by omega) hbytes; omega)
    fun g off cap w' hS hg hat => hK g off cap w' (h.onV hS hg hat) (fun g2 cs hw => hw.grown hg (fun e => h.vals.ne_whole hw (by decide) e.symm)) hg.size

end

theorem mid_start {w wr : World} {tb kB cB : Nat} {m stop : Int} {kv : Value} {kob : Option Nat} {ks : List ByteArray} {vv : Value} {vob : Option Nat} {vs : List Int} {mv : Option Nat} {L : List (Ent KeySX)} {ccs : Array Value}
    (h : WInv w wr tb kB (kB + 1) m stop kv kob ks vv vob vs mv L) (hc : Whole wr cB 44 ccs) : Mid wr wr kB (kB + 1) cB kv vv ccs kob vob kv (strs ks) kob vv (i32s vs) vob :=
  ⟨Only.refl _ _, h.kbox, h.vbox, hc, h.keys, h.vals, fun g e => .inl e, fun g e => .inl e⟩

/-- Behind both stores. -/
theorem mid_end {w wr W : World} {tb kB cB : Nat} {m stop : Int} {kv kv' : Value} {kob kob' : Option Nat} {ks : List ByteArray} {vv vv' : Value} {vob vob' : Option Nat} {vs : List Int} {mv : Option Nat} {L : List (Ent KeySX)} {ccs : Array Value} {x : ByteArray} {y : Int}
    (h : WInv w wr tb kB (kB + 1) m stop kv kob ks vv vob vs mv L) (hm : Mid wr W kB (kB + 1) cB kv vv ccs kob vob kv' (strs ks ++ [.string x]) kob' vv' (i32s vs ++ [.int .i32 y]) vob') :
    WInv w ((W.setCell ⟨kB, 0, none⟩ kv').setCell ⟨kB + 1, 0, none⟩ vv') tb kB (kB + 1) m stop kv' kob' (ks ++ [x]) vv' vob' (vs ++ [y]) mv L := by
  have hz := h.below.size
  refine winv_lists h hm.only ?_ ?_ (fun g e => ?_) (fun g e => ?_)
  · have : strs (ks ++ [x]) = strs ks ++ [.string x] := by simp [strs]
    rw [this]; exact hm.keys
  · have : i32s (vs ++ [y]) = i32s vs ++ [.int .i32 y] := by simp [i32s]
    rw [this]; exact hm.vals
  · rcases hm.kin g e with e | e
    · exact h.kIn g e
    · omega
  · rcases hm.vin g e with e | e
    · exact h.vIn g e
    · omega

/-- Behind a Put that was new. -/
theorem put_tabS {wr : World} {tb mb g : Nat} {mv : Option Nat} {L : List (Ent KeySX)} {k : KeySX} {v : Int} (hmb : mv = some mb ∨ (mv = none ∧ wr.heap.size ≤ mb)) (hg : wr.heap.size ≤ g) :
    ∀ j, TabSSX tb (some mb) (L ++ [(k, v, g)]) j → TabSSX tb mv L j ∨ wr.heap.size ≤ j := by
  intro j hj
  rcases hj with hj | hj | ⟨x, hx, rfl⟩
  · exact .inl (.inl hj)
  · cases hj
    rcases hmb with e | e
    · exact .inl (.inr (.inl e))
    · exact .inr e.2
  · rcases List.mem_append.1 hx with hx | hx
    · exact .inl (.inr (.inr ⟨x, hx, rfl⟩))
    · simp at hx; subst hx; exact .inr hg

end Go.Proofs.Ytgcnocaibhiggaa
