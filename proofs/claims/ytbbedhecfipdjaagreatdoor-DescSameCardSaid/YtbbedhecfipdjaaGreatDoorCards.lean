/-
  DERIVED. GIVEN WITH THE SEED: THE CARDS: each row of YtbbedhecfipdjaaGreatDoorRows.lean that lists a variable, with what it lists TIED to the program's text (the seventh form; the later family's looks); each row that meets fmt, with fmt's text TOLD by the authors' own Lean function (tested against real Go, not proved from fmt's source: count such statements apart). THE CARD IS WHAT COUNTS. Prove the row's statement (the work); the ties are given (YtbbedhecfipdjaaGreatDoorTie.lean); close each card by the builder's one call (the guide's Derived/Test/ToyasCard.lean, 'card_holds'). Laid BY PROGRAM, IN A SANDBOX (cutbox-door.mjs). By AI agents, Wed Nov 11 2026. No macro, syntax, notation, axiom, sorry.
-/
import Derived.Test.YtbbedhecfipdjaaGreatDoorRows
import GoSem.ClaimSeven
namespace Go.Proofs.YtbbedhecfipdjaaGreatDoor
namespace Rows

/-- THE TIED CARD OF 'rostrumlaw07.AttrWrites'. -/
def attrWritesCard : Claim7 := { stood := { row := attrWritesRow, standIns := [], harness := (true, "f3d3901cb66d3870e68d47c9aaa24627fbf50c32c5a91cc419324a3444f5d909"), looks := true }, kinds := [], alts := [], laidByText := true, laidKinds := [.data, .data, .data, .data, .data], laidTests := true, laidLooks := .later }
def AttrWritesCardSaid : Prop := Claim7.holds Tryz.pinned (.plain (OpenSpec.ofChange attrWritesSpec)) attrWritesCard

/-- THE TIED CARD OF 'rostrumlaw07.AttrReads'. -/
def attrReadsCard : Claim7 := { stood := { row := attrReadsRow, standIns := [], harness := (true, "f3d3901cb66d3870e68d47c9aaa24627fbf50c32c5a91cc419324a3444f5d909"), looks := true }, kinds := [], alts := [], laidByText := true, laidKinds := [.data, .data, .data, .sentinel, .sentinel, .data, .data], laidTests := true, laidLooks := .later }
def AttrReadsCardSaid : Prop := Claim7.holds Tryz.pinned (.plain (OpenSpec.ofChange attrReadsSpec)) attrReadsCard

/-- THE TIED CARD OF 'rostrumlaw07.AttrBack'. -/
def attrBackCard : Claim7 := { stood := { row := attrBackRow, standIns := [], harness := (true, "f3d3901cb66d3870e68d47c9aaa24627fbf50c32c5a91cc419324a3444f5d909"), looks := true }, kinds := [], alts := [], laidByText := true, laidKinds := [.data, .data, .data, .sentinel, .sentinel, .data, .data], laidTests := true, laidLooks := .later }
def AttrBackCardSaid : Prop := Claim7.holds Tryz.pinned (.plain (OpenSpec.ofChange attrBackSpec)) attrBackCard

/-- THE TIED CARD OF 'rostrumlaw07.AttrOrder'. -/
def attrOrderCard : Claim7 := { stood := { row := attrOrderRow, standIns := [], harness := (true, "f3d3901cb66d3870e68d47c9aaa24627fbf50c32c5a91cc419324a3444f5d909"), looks := true }, kinds := [], alts := [], laidByText := true, laidKinds := [.data, .data, .data, .sentinel, .sentinel, .data, .data], laidTests := true, laidLooks := .later }
def AttrOrderCardSaid : Prop := Claim7.holds Tryz.pinned (.plain (OpenSpec.ofChange attrOrderSpec)) attrOrderCard

/-- THE TIED CARD OF 'rostrumlaw07.AttrKeeps'. -/
def attrKeepsCard : Claim7 := { stood := { row := attrKeepsRow, standIns := [], harness := (true, "f3d3901cb66d3870e68d47c9aaa24627fbf50c32c5a91cc419324a3444f5d909"), looks := true }, kinds := [], alts := [], laidByText := true, laidKinds := [.data, .data, .data, .sentinel, .sentinel, .data, .data], laidTests := true, laidLooks := .later }
def AttrKeepsCardSaid : Prop := Claim7.holds Tryz.pinned (.plain (OpenSpec.ofChange attrKeepsSpec)) attrKeepsCard

/-- THE TIED CARD OF 'rostrumlaw08.DescPrints'. -/
def descPrintsCard : Claim7 := { stood := { row := descPrintsRow, standIns := [], harness := (true, "f3d3901cb66d3870e68d47c9aaa24627fbf50c32c5a91cc419324a3444f5d909"), looks := true }, kinds := [], alts := [], laidByText := true, laidKinds := [.data, .data, .data, .data, .data], laidTests := true, laidLooks := .later }
def DescPrintsCardSaid : Prop := Claim7.holds Tryz.pinned (.plain (OpenSpec.ofChange descPrintsSpec)) descPrintsCard

/-- THE TIED CARD OF 'rostrumlaw08.DescReads'. -/
def descReadsCard : Claim7 := { stood := { row := descReadsRow, standIns := [], harness := (true, "f3d3901cb66d3870e68d47c9aaa24627fbf50c32c5a91cc419324a3444f5d909"), looks := true }, kinds := [], alts := [], laidByText := true, laidKinds := [.data, .data, .data, .data, .sentinel, .sentinel, .data, .data, .pinned], laidTests := true, laidLooks := .later }
def DescReadsCardSaid : Prop := Claim7.holds Tryz.pinned (.plain (OpenSpec.ofChange descReadsSpec)) descReadsCard

/-- THE TIED CARD OF 'rostrumlaw08.DescBack'. -/
def descBackCard : Claim7 := { stood := { row := descBackRow, standIns := [], harness := (true, "f3d3901cb66d3870e68d47c9aaa24627fbf50c32c5a91cc419324a3444f5d909"), looks := true }, kinds := [], alts := [], laidByText := true, laidKinds := [.data, .data, .data, .data, .sentinel, .sentinel, .data, .data, .pinned], laidTests := true, laidLooks := .later }
def DescBackCardSaid : Prop := Claim7.holds Tryz.pinned (.plain (OpenSpec.ofChange descBackSpec)) descBackCard

/-- THE TIED CARD OF 'rostrumlaw08.DescTurned'. -/
def descTurnedCard : Claim7 := { stood := { row := descTurnedRow, standIns := [], harness := (true, "f3d3901cb66d3870e68d47c9aaa24627fbf50c32c5a91cc419324a3444f5d909"), looks := true }, kinds := [], alts := [], laidByText := true, laidKinds := [.data, .data, .data, .data, .sentinel, .sentinel, .data, .data, .pinned], laidTests := true, laidLooks := .later }
def DescTurnedCardSaid : Prop := Claim7.holds Tryz.pinned (.plain (OpenSpec.ofChange descTurnedSpec)) descTurnedCard

/-- THE TIED CARD OF 'rostrumlaw08.DescSame'. -/
def descSameCard : Claim7 := { stood := { row := descSameRow, standIns := [], harness := (true, "f3d3901cb66d3870e68d47c9aaa24627fbf50c32c5a91cc419324a3444f5d909"), looks := true }, kinds := [], alts := [], laidByText := true, laidKinds := [.data, .data, .data, .data, .data], laidTests := true, laidLooks := .later }
def DescSameCardSaid : Prop := Claim7.holds Tryz.pinned (.plain (OpenSpec.ofChange descSameSpec)) descSameCard

/-- THE TIED CARD OF 'rostrumlaw08.DescMids'. -/
def descMidsCard : Claim7 := { stood := { row := descMidsRow, standIns := [], harness := (true, "f3d3901cb66d3870e68d47c9aaa24627fbf50c32c5a91cc419324a3444f5d909"), looks := true }, kinds := [], alts := [], laidByText := true, laidKinds := [.data, .data, .data, .data, .data], laidTests := true, laidLooks := .later }
def DescMidsCardSaid : Prop := Claim7.holds Tryz.pinned (.plain (OpenSpec.ofChange descMidsSpec)) descMidsCard

/-- THE SECOND FORM's CARD OF 'rostrumlaw07.AttrWrites'. -/
def attrWritesUptoCard : Claim7 := { stood := { row := attrWritesUptoRow, standIns := [], harness := (true, "f3d3901cb66d3870e68d47c9aaa24627fbf50c32c5a91cc419324a3444f5d909"), looks := true }, kinds := [], alts := [], laidByText := true, laidKinds := [.data, .data, .data, .data, .data], laidTests := true, laidLooks := .later }
def AttrWritesUptoCardSaid : Prop := Claim7.holds Tryz.pinned (.plain (OpenSpec.upto attrWritesSpec)) attrWritesUptoCard

/-- THE SECOND FORM's CARD OF 'rostrumlaw07.AttrReads'. -/
def attrReadsUptoCard : Claim7 := { stood := { row := attrReadsUptoRow, standIns := [], harness := (true, "f3d3901cb66d3870e68d47c9aaa24627fbf50c32c5a91cc419324a3444f5d909"), looks := true }, kinds := [], alts := [], laidByText := true, laidKinds := [.data, .data, .data, .sentinel, .sentinel, .data, .data], laidTests := true, laidLooks := .later }
def AttrReadsUptoCardSaid : Prop := Claim7.holds Tryz.pinned (.plain (OpenSpec.upto attrReadsSpec)) attrReadsUptoCard

/-- THE SECOND FORM's CARD OF 'rostrumlaw07.AttrBack'. -/
def attrBackUptoCard : Claim7 := { stood := { row := attrBackUptoRow, standIns := [], harness := (true, "f3d3901cb66d3870e68d47c9aaa24627fbf50c32c5a91cc419324a3444f5d909"), looks := true }, kinds := [], alts := [], laidByText := true, laidKinds := [.data, .data, .data, .sentinel, .sentinel, .data, .data], laidTests := true, laidLooks := .later }
def AttrBackUptoCardSaid : Prop := Claim7.holds Tryz.pinned (.plain (OpenSpec.upto attrBackSpec)) attrBackUptoCard

/-- THE SECOND FORM's CARD OF 'rostrumlaw07.AttrOrder'. -/
def attrOrderUptoCard : Claim7 := { stood := { row := attrOrderUptoRow, standIns := [], harness := (true, "f3d3901cb66d3870e68d47c9aaa24627fbf50c32c5a91cc419324a3444f5d909"), looks := true }, kinds := [], alts := [], laidByText := true, laidKinds := [.data, .data, .data, .sentinel, .sentinel, .data, .data], laidTests := true, laidLooks := .later }
def AttrOrderUptoCardSaid : Prop := Claim7.holds Tryz.pinned (.plain (OpenSpec.upto attrOrderSpec)) attrOrderUptoCard

/-- THE SECOND FORM's CARD OF 'rostrumlaw07.AttrKeeps'. -/
def attrKeepsUptoCard : Claim7 := { stood := { row := attrKeepsUptoRow, standIns := [], harness := (true, "f3d3901cb66d3870e68d47c9aaa24627fbf50c32c5a91cc419324a3444f5d909"), looks := true }, kinds := [], alts := [], laidByText := true, laidKinds := [.data, .data, .data, .sentinel, .sentinel, .data, .data], laidTests := true, laidLooks := .later }
def AttrKeepsUptoCardSaid : Prop := Claim7.holds Tryz.pinned (.plain (OpenSpec.upto attrKeepsSpec)) attrKeepsUptoCard

/-- THE SECOND FORM's CARD OF 'rostrumlaw08.DescPrints'. -/
def descPrintsUptoCard : Claim7 := { stood := { row := descPrintsUptoRow, standIns := [], harness := (true, "f3d3901cb66d3870e68d47c9aaa24627fbf50c32c5a91cc419324a3444f5d909"), looks := true }, kinds := [], alts := [], laidByText := true, laidKinds := [.data, .data, .data, .data, .data], laidTests := true, laidLooks := .later }
def DescPrintsUptoCardSaid : Prop := Claim7.holds Tryz.pinned (.plain (OpenSpec.upto descPrintsSpec)) descPrintsUptoCard

/-- THE SECOND FORM's CARD OF 'rostrumlaw08.DescReads'. -/
def descReadsUptoCard : Claim7 := { stood := { row := descReadsUptoRow, standIns := [], harness := (true, "f3d3901cb66d3870e68d47c9aaa24627fbf50c32c5a91cc419324a3444f5d909"), looks := true }, kinds := [], alts := [], laidByText := true, laidKinds := [.data, .data, .data, .data, .sentinel, .sentinel, .data, .data, .pinned], laidTests := true, laidLooks := .later }
def DescReadsUptoCardSaid : Prop := Claim7.holds Tryz.pinned (.plain (OpenSpec.upto descReadsSpec)) descReadsUptoCard

/-- THE SECOND FORM's CARD OF 'rostrumlaw08.DescBack'. -/
def descBackUptoCard : Claim7 := { stood := { row := descBackUptoRow, standIns := [], harness := (true, "f3d3901cb66d3870e68d47c9aaa24627fbf50c32c5a91cc419324a3444f5d909"), looks := true }, kinds := [], alts := [], laidByText := true, laidKinds := [.data, .data, .data, .data, .sentinel, .sentinel, .data, .data, .pinned], laidTests := true, laidLooks := .later }
def DescBackUptoCardSaid : Prop := Claim7.holds Tryz.pinned (.plain (OpenSpec.upto descBackSpec)) descBackUptoCard

/-- THE SECOND FORM's CARD OF 'rostrumlaw08.DescTurned'. -/
def descTurnedUptoCard : Claim7 := { stood := { row := descTurnedUptoRow, standIns := [], harness := (true, "f3d3901cb66d3870e68d47c9aaa24627fbf50c32c5a91cc419324a3444f5d909"), looks := true }, kinds := [], alts := [], laidByText := true, laidKinds := [.data, .data, .data, .data, .sentinel, .sentinel, .data, .data, .pinned], laidTests := true, laidLooks := .later }
def DescTurnedUptoCardSaid : Prop := Claim7.holds Tryz.pinned (.plain (OpenSpec.upto descTurnedSpec)) descTurnedUptoCard

/-- THE SECOND FORM's CARD OF 'rostrumlaw08.DescSame'. -/
def descSameUptoCard : Claim7 := { stood := { row := descSameUptoRow, standIns := [], harness := (true, "f3d3901cb66d3870e68d47c9aaa24627fbf50c32c5a91cc419324a3444f5d909"), looks := true }, kinds := [], alts := [], laidByText := true, laidKinds := [.data, .data, .data, .data, .data], laidTests := true, laidLooks := .later }
def DescSameUptoCardSaid : Prop := Claim7.holds Tryz.pinned (.plain (OpenSpec.upto descSameSpec)) descSameUptoCard

/-- THE SECOND FORM's CARD OF 'rostrumlaw08.DescMids'. -/
def descMidsUptoCard : Claim7 := { stood := { row := descMidsUptoRow, standIns := [], harness := (true, "f3d3901cb66d3870e68d47c9aaa24627fbf50c32c5a91cc419324a3444f5d909"), looks := true }, kinds := [], alts := [], laidByText := true, laidKinds := [.data, .data, .data, .data, .data], laidTests := true, laidLooks := .later }
def DescMidsUptoCardSaid : Prop := Claim7.holds Tryz.pinned (.plain (OpenSpec.upto descMidsSpec)) descMidsUptoCard
end Rows
end Go.Proofs.YtbbedhecfipdjaaGreatDoor
