import Derived.Test.YtbbedhecfipdjaaGreatDoorPkAttrOrderA24
import Derived.Test.YtbbedhecfipdjaaGreatDoorPkAttrOrderA12
import Derived.Test.YtbbedhecfipdjaaGreatDoorPkAttrOrderA25
import Derived.Test.YtbbedhecfipdjaaGreatDoorPkAttrOrderA11
import Derived.Test.YtbbedhecfipdjaaGreatDoorPkAttrOrderA09
namespace Go.Proofs.YtbbedhecfipdjaaGreatDoor
open Go.RowKit
set_option linter.unusedVariables false
set_option linter.unusedSimpArgs false
theorem MediaV.forms3 {w : World} {B : Nat} {M : Array Value} {m : MediaS} {vC vE vR vS vY : Value} (h : MediaV w B M m vC vE vR vS vY) : (∃ A l k, vC = .slice A l k) ∧ (∃ A l k, vE = .slice A l k) ∧ (∃ A l k, vR = .slice A l k) ∧ (∃ A l k, vS = .slice A l k) ∧ (∃ A l k, vY = .slice A l k) := by
 refine ⟨?_, ?_, ?_, ?_, ?_⟩
 · obtain ⟨A, k, h, -⟩ := Rows.form h.codecs; exact ⟨_, _, _, h⟩
 · obtain ⟨A, k, h, -⟩ := Rows.form h.exts; exact ⟨_, _, _, h⟩
 · obtain ⟨A, k, h, -⟩ := Rows.form h.rids; exact ⟨_, _, _, h⟩
 · obtain ⟨A, k, h, -⟩ := Rows.form h.sources; exact ⟨_, _, _, h⟩
 · obtain ⟨A, k, h, -⟩ := Rows.form h.crypto; exact ⟨_, _, _, h⟩
def ReadIs (p : PartS) (m : MediaS) (er : Int) : Prop := (er = 0 ∧ IsM p m ∧ TypedM m) ∨ (er = 2 ∧ m = MediaS.zero ∧ ∀ m', TypedM m' → ¬ IsM p m')
theorem ReadIs.uniq {p : PartS} {m m' : MediaS} {er er' : Int} (h : ReadIs p m er) (h' : ReadIs p m' er') : m = m' ∧ er = er' := by
 rcases h with ⟨rfl, h1, h2⟩ | ⟨rfl, rfl, h2⟩ <;> rcases h' with ⟨rfl, k1, k2⟩ | ⟨rfl, rfl, k2⟩
 · have e1 := IsM.read rP_law h1 h2
   have e2 := IsM.read rP_law k1 k2
   exact ⟨by rw [← e1, ← e2], rfl⟩
 · exact absurd h1 (k2 _ h2)
 · exact absurd k1 (h2 _ k2)
 · exact ⟨rfl, rfl⟩
def ReadN (p : PartS) (w : World) (e : Ending) (w' : World) : Prop := ∃ m AC lC kC AE lE kE AR lR kR AS lS kS AY lY kY er, e = .returned (.tuple #[.agg (mcell m (.slice AC lC kC) (.slice AE lE kE) (.slice AR lR kR) (.slice AS lS kS) (.slice AY lY kY)), .int .i64 er]) ∧ Below w.heap.size w w' ∧ ReadIs p m er ∧ MediaV w' w'.heap.size (mcell m (.slice AC lC kC) (.slice AE lE kE) (.slice AR lR kR) (.slice AS lS kS) (.slice AY lY kY)) m (.slice AC lC kC) (.slice AE lE kE) (.slice AR lR kR) (.slice AS lS kS) (.slice AY lY kY)
theorem zero_media (w : World) (B : Nat) : MediaV w B (mcell MediaS.zero (.slice none 0 0) (.slice none 0 0) (.slice none 0 0) (.slice none 0 0) (.slice none 0 0)) MediaS.zero (.slice none 0 0) (.slice none 0 0) (.slice none 0 0) (.slice none 0 0) (.slice none 0 0) :=
 ⟨rfl, Rows.nil _ _ _ _, Rows.nil _ _ _ _, Rows.nil _ _ _ _, Rows.nil _ _ _ _, Rows.nil _ _ _ _⟩
theorem RReadO.norm {p : PartS} {w w' : World} {e : Ending} (h : RReadO p w e w') : ReadN p w e w' := by
 obtain ⟨m, vC, vE, vR, vS, vY, er, rfl, hb, h⟩ := h
 rcases h with ⟨rfl, h1, h2, h3⟩ | ⟨rfl, hz, h2⟩
 · obtain ⟨⟨AC, lC, kC, rfl⟩, ⟨AE, lE, kE, rfl⟩, ⟨AR, lR, kR, rfl⟩, ⟨AS, lS, kS, rfl⟩, ⟨AY, lY, kY, rfl⟩⟩ := h3.forms3
   exact ⟨m, AC, lC, kC, AE, lE, kE, AR, lR, kR, AS, lS, kS, AY, lY, kY, 0, rfl, hb, .inl ⟨rfl, h1, h2⟩, h3⟩
 · exact ⟨MediaS.zero, none, 0, 0, none, 0, 0, none, 0, 0, none, 0, 0, none, 0, 0, 2, by rw [hz]; rfl, hb, .inr ⟨rfl, rfl, h2⟩, zero_media _ _⟩
theorem ReadO.norm {p : PartS} {w w' : World} {e : Ending} (h : ReadO p w e w') : ReadN p w e w' := by
 obtain ⟨m, vC, vE, vR, vS, vY, er, rfl, hb, h⟩ := h
 rcases h with ⟨rfl, h1, bm, cs, hM⟩ | ⟨rfl, hz, h2⟩
 · obtain ⟨⟨AC, lC, kC, rfl⟩, ⟨AE, lE, kE, rfl⟩, ⟨AR, lR, kR, rfl⟩, ⟨AS, lS, kS, rfl⟩, ⟨AY, lY, kY, rfl⟩⟩ := hM.media.forms3
   exact ⟨m, AC, lC, kC, AE, lE, kE, AR, lR, kR, AS, lS, kS, AY, lY, kY, 0, rfl, hb, .inl ⟨rfl, h1, hM.siz.typed⟩, hM.media⟩
 · exact ⟨MediaS.zero, none, 0, 0, none, 0, 0, none, 0, 0, none, 0, 0, none, 0, 0, 2, by rw [hz]; rfl, hb, .inr ⟨rfl, rfl, h2⟩, zero_media _ _⟩
end Go.Proofs.YtbbedhecfipdjaaGreatDoor
