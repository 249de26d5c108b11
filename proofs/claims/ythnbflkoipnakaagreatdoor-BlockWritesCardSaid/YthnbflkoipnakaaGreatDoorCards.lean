/-
  DERIVED. GIVEN WITH THE SEED: THE CARDS: each row of YthnbflkoipnakaaGreatDoorRows.lean that lists a variable, with what it lists TIED to the program's text (the seventh form; the later family's looks); each row that meets fmt, with fmt's text TOLD by the authors' own Lean function (tested against real Go, not proved from fmt's source: count such statements apart). THE CARD IS WHAT COUNTS. Prove the row's statement (the work); the ties are given (YthnbflkoipnakaaGreatDoorTie.lean); close each card by the builder's one call (the guide's Derived/Test/ToyasCard.lean, 'card_holds'). Laid BY PROGRAM, IN A SANDBOX (cutbox-door.mjs). By AI agents, Wed Nov 11 2026. No macro, syntax, notation, axiom, sorry.
-/
import Derived.Test.YthnbflkoipnakaaGreatDoorRows
import GoSem.ClaimSeven
namespace Go.Proofs.YthnbflkoipnakaaGreatDoor
namespace Rows

/-- THE TIED CARD OF 'footlockerlaw14.BlockWrites'. -/
def blockWritesCard : Claim7 := { stood := { row := blockWritesRow, standIns := [], harness := (true, "e9ad9020d486034e20bbd5cc615afbcb8f9f8245dd7f2a8de06a408aecd4192f"), looks := false }, kinds := [], alts := [], laidByText := true, laidKinds := [.data, .data], laidTests := true, laidLooks := .later }
def BlockWritesCardSaid : Prop := Claim7.holds Tryz.pinned (.plain (OpenSpec.ofChange blockWritesSpec)) blockWritesCard

/-- THE TIED CARD OF 'footlockerlaw14.BlockUnpacks'. -/
def blockUnpacksCard : Claim7 := { stood := { row := blockUnpacksRow, standIns := [], harness := (true, "e9ad9020d486034e20bbd5cc615afbcb8f9f8245dd7f2a8de06a408aecd4192f"), looks := false }, kinds := [], alts := [], laidByText := true, laidKinds := [.data, .data], laidTests := true, laidLooks := .later }
def BlockUnpacksCardSaid : Prop := Claim7.holds Tryz.pinned (.plain (OpenSpec.ofChange blockUnpacksSpec)) blockUnpacksCard

/-- THE TIED CARD OF 'footlockerlaw14.BlockRows'. -/
def blockRowsCard : Claim7 := { stood := { row := blockRowsRow, standIns := [], harness := (true, "e9ad9020d486034e20bbd5cc615afbcb8f9f8245dd7f2a8de06a408aecd4192f"), looks := false }, kinds := [], alts := [], laidByText := true, laidKinds := [.data, .data], laidTests := true, laidLooks := .later }
def BlockRowsCardSaid : Prop := Claim7.holds Tryz.pinned (.plain (OpenSpec.ofChange blockRowsSpec)) blockRowsCard

/-- THE TIED CARD OF 'footlockerlaw14.BlockSizes'. -/
def blockSizesCard : Claim7 := { stood := { row := blockSizesRow, standIns := [], harness := (true, "e9ad9020d486034e20bbd5cc615afbcb8f9f8245dd7f2a8de06a408aecd4192f"), looks := false }, kinds := [], alts := [], laidByText := true, laidKinds := [.data, .data], laidTests := true, laidLooks := .later }
def BlockSizesCardSaid : Prop := Claim7.holds Tryz.pinned (.plain (OpenSpec.ofChange blockSizesSpec)) blockSizesCard

/-- THE TIED CARD OF 'footlockerlaw14.BlockCounts'. -/
def blockCountsCard : Claim7 := { stood := { row := blockCountsRow, standIns := [], harness := (true, "e9ad9020d486034e20bbd5cc615afbcb8f9f8245dd7f2a8de06a408aecd4192f"), looks := false }, kinds := [], alts := [], laidByText := true, laidKinds := [.data, .data], laidTests := true, laidLooks := .later }
def BlockCountsCardSaid : Prop := Claim7.holds Tryz.pinned (.plain (OpenSpec.ofChange blockCountsSpec)) blockCountsCard

/-- THE SECOND FORM's CARD OF 'footlockerlaw14.BlockWrites'. -/
def blockWritesUptoCard : Claim7 := { stood := { row := blockWritesUptoRow, standIns := [], harness := (true, "e9ad9020d486034e20bbd5cc615afbcb8f9f8245dd7f2a8de06a408aecd4192f"), looks := false }, kinds := [], alts := [], laidByText := true, laidKinds := [.data, .data], laidTests := true, laidLooks := .later }
def BlockWritesUptoCardSaid : Prop := Claim7.holds Tryz.pinned (.plain (OpenSpec.upto blockWritesSpec)) blockWritesUptoCard

/-- THE SECOND FORM's CARD OF 'footlockerlaw14.BlockUnpacks'. -/
def blockUnpacksUptoCard : Claim7 := { stood := { row := blockUnpacksUptoRow, standIns := [], harness := (true, "e9ad9020d486034e20bbd5cc615afbcb8f9f8245dd7f2a8de06a408aecd4192f"), looks := false }, kinds := [], alts := [], laidByText := true, laidKinds := [.data, .data], laidTests := true, laidLooks := .later }
def BlockUnpacksUptoCardSaid : Prop := Claim7.holds Tryz.pinned (.plain (OpenSpec.upto blockUnpacksSpec)) blockUnpacksUptoCard

/-- THE SECOND FORM's CARD OF 'footlockerlaw14.BlockRows'. -/
def blockRowsUptoCard : Claim7 := { stood := { row := blockRowsUptoRow, standIns := [], harness := (true, "e9ad9020d486034e20bbd5cc615afbcb8f9f8245dd7f2a8de06a408aecd4192f"), looks := false }, kinds := [], alts := [], laidByText := true, laidKinds := [.data, .data], laidTests := true, laidLooks := .later }
def BlockRowsUptoCardSaid : Prop := Claim7.holds Tryz.pinned (.plain (OpenSpec.upto blockRowsSpec)) blockRowsUptoCard

/-- THE SECOND FORM's CARD OF 'footlockerlaw14.BlockSizes'. -/
def blockSizesUptoCard : Claim7 := { stood := { row := blockSizesUptoRow, standIns := [], harness := (true, "e9ad9020d486034e20bbd5cc615afbcb8f9f8245dd7f2a8de06a408aecd4192f"), looks := false }, kinds := [], alts := [], laidByText := true, laidKinds := [.data, .data], laidTests := true, laidLooks := .later }
def BlockSizesUptoCardSaid : Prop := Claim7.holds Tryz.pinned (.plain (OpenSpec.upto blockSizesSpec)) blockSizesUptoCard

/-- THE SECOND FORM's CARD OF 'footlockerlaw14.BlockCounts'. -/
def blockCountsUptoCard : Claim7 := { stood := { row := blockCountsUptoRow, standIns := [], harness := (true, "e9ad9020d486034e20bbd5cc615afbcb8f9f8245dd7f2a8de06a408aecd4192f"), looks := false }, kinds := [], alts := [], laidByText := true, laidKinds := [.data, .data], laidTests := true, laidLooks := .later }
def BlockCountsUptoCardSaid : Prop := Claim7.holds Tryz.pinned (.plain (OpenSpec.upto blockCountsSpec)) blockCountsUptoCard
end Rows
end Go.Proofs.YthnbflkoipnakaaGreatDoor
