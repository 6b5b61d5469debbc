/-
  DERIVED. GIVEN WITH THE SEED: THE CARDS: each row of YtgnpckelbokniaaGreatDoorRows.lean that lists a variable, with what it lists TIED to the program's text (the seventh form; the later family's looks); each row that meets fmt, with fmt's text TOLD by the authors' own Lean function (tested against real Go, not proved from fmt's source: count such statements apart). THE CARD IS WHAT COUNTS. Prove the row's statement (the work); the ties are given (YtgnpckelbokniaaGreatDoorTie.lean); close each card by the builder's one call (the guide's Derived/Test/ToyasCard.lean, 'card_holds'). Laid BY PROGRAM, IN A SANDBOX (cutbox-door.mjs). By AI agents, Wed Nov 11 2026. No macro, syntax, notation, axiom, sorry.
-/
import Derived.Test.YtgnpckelbokniaaGreatDoorRows
import GoSem.ClaimSeven
namespace Go.Proofs.YtgnpckelbokniaaGreatDoor
namespace Rows

/-- THE TIED CARD OF 'rostrumlaw07.AttrKeeps'. -/
def attrKeepsCard : Claim7 := { stood := { row := attrKeepsRow, standIns := [], harness := (true, "1c0b1a3e87a8ec71db16ea9f84d1becee6a5a778cdc55c7540f864bfaeabce3f"), looks := true }, kinds := [], alts := [], laidByText := true, laidKinds := [.data, .data, .data, .sentinel, .sentinel, .data, .data], laidTests := true, laidLooks := .later }
def AttrKeepsCardSaid : Prop := Claim7.holds Tryz.pinned (.plain (OpenSpec.ofChange attrKeepsSpec)) attrKeepsCard

/-- THE TIED CARD OF 'rostrumlaw08.DescReads'. -/
def descReadsCard : Claim7 := { stood := { row := descReadsRow, standIns := [], harness := (true, "1c0b1a3e87a8ec71db16ea9f84d1becee6a5a778cdc55c7540f864bfaeabce3f"), looks := true }, kinds := [], alts := [], laidByText := true, laidKinds := [.data, .data, .data, .data, .sentinel, .sentinel, .data, .data, .pinned], laidTests := true, laidLooks := .later }
def DescReadsCardSaid : Prop := Claim7.holds Tryz.pinned (.plain (OpenSpec.ofChange descReadsSpec)) descReadsCard

/-- THE TIED CARD OF 'rostrumlaw08.DescBack'. -/
def descBackCard : Claim7 := { stood := { row := descBackRow, standIns := [], harness := (true, "1c0b1a3e87a8ec71db16ea9f84d1becee6a5a778cdc55c7540f864bfaeabce3f"), looks := true }, kinds := [], alts := [], laidByText := true, laidKinds := [.data, .data, .data, .data, .sentinel, .sentinel, .data, .data, .pinned], laidTests := true, laidLooks := .later }
def DescBackCardSaid : Prop := Claim7.holds Tryz.pinned (.plain (OpenSpec.ofChange descBackSpec)) descBackCard

/-- THE TIED CARD OF 'rostrumlaw08.DescTurned'. -/
def descTurnedCard : Claim7 := { stood := { row := descTurnedRow, standIns := [], harness := (true, "1c0b1a3e87a8ec71db16ea9f84d1becee6a5a778cdc55c7540f864bfaeabce3f"), looks := true }, kinds := [], alts := [], laidByText := true, laidKinds := [.data, .data, .data, .data, .sentinel, .sentinel, .data, .data, .pinned], laidTests := true, laidLooks := .later }
def DescTurnedCardSaid : Prop := Claim7.holds Tryz.pinned (.plain (OpenSpec.ofChange descTurnedSpec)) descTurnedCard

/-- THE SECOND FORM's CARD OF 'rostrumlaw07.AttrKeeps'. -/
def attrKeepsUptoCard : Claim7 := { stood := { row := attrKeepsUptoRow, standIns := [], harness := (true, "1c0b1a3e87a8ec71db16ea9f84d1becee6a5a778cdc55c7540f864bfaeabce3f"), looks := true }, kinds := [], alts := [], laidByText := true, laidKinds := [.data, .data, .data, .sentinel, .sentinel, .data, .data], laidTests := true, laidLooks := .later }
def AttrKeepsUptoCardSaid : Prop := Claim7.holds Tryz.pinned (.plain (OpenSpec.upto attrKeepsSpec)) attrKeepsUptoCard

/-- THE SECOND FORM's CARD OF 'rostrumlaw08.DescReads'. -/
def descReadsUptoCard : Claim7 := { stood := { row := descReadsUptoRow, standIns := [], harness := (true, "1c0b1a3e87a8ec71db16ea9f84d1becee6a5a778cdc55c7540f864bfaeabce3f"), looks := true }, kinds := [], alts := [], laidByText := true, laidKinds := [.data, .data, .data, .data, .sentinel, .sentinel, .data, .data, .pinned], laidTests := true, laidLooks := .later }
def DescReadsUptoCardSaid : Prop := Claim7.holds Tryz.pinned (.plain (OpenSpec.upto descReadsSpec)) descReadsUptoCard

/-- THE SECOND FORM's CARD OF 'rostrumlaw08.DescBack'. -/
def descBackUptoCard : Claim7 := { stood := { row := descBackUptoRow, standIns := [], harness := (true, "1c0b1a3e87a8ec71db16ea9f84d1becee6a5a778cdc55c7540f864bfaeabce3f"), looks := true }, kinds := [], alts := [], laidByText := true, laidKinds := [.data, .data, .data, .data, .sentinel, .sentinel, .data, .data, .pinned], laidTests := true, laidLooks := .later }
def DescBackUptoCardSaid : Prop := Claim7.holds Tryz.pinned (.plain (OpenSpec.upto descBackSpec)) descBackUptoCard

/-- THE SECOND FORM's CARD OF 'rostrumlaw08.DescTurned'. -/
def descTurnedUptoCard : Claim7 := { stood := { row := descTurnedUptoRow, standIns := [], harness := (true, "1c0b1a3e87a8ec71db16ea9f84d1becee6a5a778cdc55c7540f864bfaeabce3f"), looks := true }, kinds := [], alts := [], laidByText := true, laidKinds := [.data, .data, .data, .data, .sentinel, .sentinel, .data, .data, .pinned], laidTests := true, laidLooks := .later }
def DescTurnedUptoCardSaid : Prop := Claim7.holds Tryz.pinned (.plain (OpenSpec.upto descTurnedSpec)) descTurnedUptoCard
end Rows
end Go.Proofs.YtgnpckelbokniaaGreatDoor
