/-
  DERIVED. GIVEN WITH THE SEED: THE CARDS: each row of YtldgdofefcehnaaGreatDoorRows.lean that lists a variable, with what it lists TIED to the program's text (the seventh form; the later family's looks); each row that meets fmt, with fmt's text TOLD by the authors' own Lean function (tested against real Go, not proved from fmt's source: count such statements apart). THE CARD IS WHAT COUNTS. Prove the row's statement (the work); the ties are given (YtldgdofefcehnaaGreatDoorTie.lean); close each card by the builder's one call (the guide's Derived/Test/ToyasCard.lean, 'card_holds'). Laid BY PROGRAM, IN A SANDBOX (cutbox-door.mjs). By AI agents, Wed Nov 11 2026. No macro, syntax, notation, axiom, sorry.
-/
import Derived.Test.YtldgdofefcehnaaGreatDoorRows
import GoSem.ClaimSeven
namespace Go.Proofs.YtldgdofefcehnaaGreatDoor
namespace Rows

/-- THE TIED CARD OF 'footlockerlaw15.DeflateBack'. -/
def deflateBackCard : Claim7 := { stood := { row := deflateBackRow, standIns := [], harness := (true, "417b195de9f2182bbc9bc68269eaa1c113d77cf82d3a94cbf0e61be66d97aa09"), looks := true }, kinds := [], alts := [], laidByText := true, laidKinds := [.data, .data], laidTests := true, laidLooks := .later }
def DeflateBackCardSaid : Prop := Claim7.holds Tryz.pinned (.plain (OpenSpec.ofChange deflateBackSpec)) deflateBackCard

/-- THE TIED CARD OF 'footlockerlaw15.DeflateSizes'. -/
def deflateSizesCard : Claim7 := { stood := { row := deflateSizesRow, standIns := [], harness := (true, "417b195de9f2182bbc9bc68269eaa1c113d77cf82d3a94cbf0e61be66d97aa09"), looks := true }, kinds := [], alts := [], laidByText := true, laidKinds := [.data, .data], laidTests := true, laidLooks := .later }
def DeflateSizesCardSaid : Prop := Claim7.holds Tryz.pinned (.plain (OpenSpec.ofChange deflateSizesSpec)) deflateSizesCard

/-- THE TIED CARD OF 'footlockerlaw15.DeflateRuns'. -/
def deflateRunsCard : Claim7 := { stood := { row := deflateRunsRow, standIns := [], harness := (true, "417b195de9f2182bbc9bc68269eaa1c113d77cf82d3a94cbf0e61be66d97aa09"), looks := true }, kinds := [], alts := [], laidByText := true, laidKinds := [.data, .data], laidTests := true, laidLooks := .later }
def DeflateRunsCardSaid : Prop := Claim7.holds Tryz.pinned (.plain (OpenSpec.ofChange deflateRunsSpec)) deflateRunsCard

/-- THE TIED CARD OF 'footlockerlaw15.DeflateForms'. -/
def deflateFormsCard : Claim7 := { stood := { row := deflateFormsRow, standIns := [], harness := (true, "417b195de9f2182bbc9bc68269eaa1c113d77cf82d3a94cbf0e61be66d97aa09"), looks := true }, kinds := [], alts := [], laidByText := true, laidKinds := [.data, .data], laidTests := true, laidLooks := .later }
def DeflateFormsCardSaid : Prop := Claim7.holds Tryz.pinned (.plain (OpenSpec.ofChange deflateFormsSpec)) deflateFormsCard

/-- THE TIED CARD OF 'footlockerlaw15.DeflateMethods'. -/
def deflateMethodsCard : Claim7 := { stood := { row := deflateMethodsRow, standIns := [], harness := (true, "417b195de9f2182bbc9bc68269eaa1c113d77cf82d3a94cbf0e61be66d97aa09"), looks := true }, kinds := [], alts := [], laidByText := true, laidKinds := [.data, .data], laidTests := true, laidLooks := .later }
def DeflateMethodsCardSaid : Prop := Claim7.holds Tryz.pinned (.plain (OpenSpec.ofChange deflateMethodsSpec)) deflateMethodsCard

/-- THE TIED CARD OF 'footlockertop.WholePacks'. -/
def wholePacksCard : Claim7 := { stood := { row := wholePacksRow, standIns := [], harness := (true, "417b195de9f2182bbc9bc68269eaa1c113d77cf82d3a94cbf0e61be66d97aa09"), looks := true }, kinds := [], alts := [], laidByText := true, laidKinds := [.data, .data], laidTests := true, laidLooks := .later }
def WholePacksCardSaid : Prop := Claim7.holds Tryz.pinned (.plain (OpenSpec.ofChange wholePacksSpec)) wholePacksCard

/-- THE TIED CARD OF 'footlockertop.WholeTokens'. -/
def wholeTokensCard : Claim7 := { stood := { row := wholeTokensRow, standIns := [], harness := (true, "417b195de9f2182bbc9bc68269eaa1c113d77cf82d3a94cbf0e61be66d97aa09"), looks := true }, kinds := [], alts := [], laidByText := true, laidKinds := [.data, .data], laidTests := true, laidLooks := .later }
def WholeTokensCardSaid : Prop := Claim7.holds Tryz.pinned (.plain (OpenSpec.ofChange wholeTokensSpec)) wholeTokensCard

/-- THE TIED CARD OF 'footlockertop.WholeCodes'. -/
def wholeCodesCard : Claim7 := { stood := { row := wholeCodesRow, standIns := [], harness := (true, "417b195de9f2182bbc9bc68269eaa1c113d77cf82d3a94cbf0e61be66d97aa09"), looks := true }, kinds := [], alts := [], laidByText := true, laidKinds := [.data, .data], laidTests := true, laidLooks := .later }
def WholeCodesCardSaid : Prop := Claim7.holds Tryz.pinned (.plain (OpenSpec.ofChange wholeCodesSpec)) wholeCodesCard

/-- THE SECOND FORM's CARD OF 'footlockerlaw15.DeflateBack'. -/
def deflateBackUptoCard : Claim7 := { stood := { row := deflateBackUptoRow, standIns := [], harness := (true, "417b195de9f2182bbc9bc68269eaa1c113d77cf82d3a94cbf0e61be66d97aa09"), looks := true }, kinds := [], alts := [], laidByText := true, laidKinds := [.data, .data], laidTests := true, laidLooks := .later }
def DeflateBackUptoCardSaid : Prop := Claim7.holds Tryz.pinned (.plain (OpenSpec.upto deflateBackSpec)) deflateBackUptoCard

/-- THE SECOND FORM's CARD OF 'footlockerlaw15.DeflateSizes'. -/
def deflateSizesUptoCard : Claim7 := { stood := { row := deflateSizesUptoRow, standIns := [], harness := (true, "417b195de9f2182bbc9bc68269eaa1c113d77cf82d3a94cbf0e61be66d97aa09"), looks := true }, kinds := [], alts := [], laidByText := true, laidKinds := [.data, .data], laidTests := true, laidLooks := .later }
def DeflateSizesUptoCardSaid : Prop := Claim7.holds Tryz.pinned (.plain (OpenSpec.upto deflateSizesSpec)) deflateSizesUptoCard

/-- THE SECOND FORM's CARD OF 'footlockerlaw15.DeflateRuns'. -/
def deflateRunsUptoCard : Claim7 := { stood := { row := deflateRunsUptoRow, standIns := [], harness := (true, "417b195de9f2182bbc9bc68269eaa1c113d77cf82d3a94cbf0e61be66d97aa09"), looks := true }, kinds := [], alts := [], laidByText := true, laidKinds := [.data, .data], laidTests := true, laidLooks := .later }
def DeflateRunsUptoCardSaid : Prop := Claim7.holds Tryz.pinned (.plain (OpenSpec.upto deflateRunsSpec)) deflateRunsUptoCard

/-- THE SECOND FORM's CARD OF 'footlockerlaw15.DeflateForms'. -/
def deflateFormsUptoCard : Claim7 := { stood := { row := deflateFormsUptoRow, standIns := [], harness := (true, "417b195de9f2182bbc9bc68269eaa1c113d77cf82d3a94cbf0e61be66d97aa09"), looks := true }, kinds := [], alts := [], laidByText := true, laidKinds := [.data, .data], laidTests := true, laidLooks := .later }
def DeflateFormsUptoCardSaid : Prop := Claim7.holds Tryz.pinned (.plain (OpenSpec.upto deflateFormsSpec)) deflateFormsUptoCard

/-- THE SECOND FORM's CARD OF 'footlockerlaw15.DeflateMethods'. -/
def deflateMethodsUptoCard : Claim7 := { stood := { row := deflateMethodsUptoRow, standIns := [], harness := (true, "417b195de9f2182bbc9bc68269eaa1c113d77cf82d3a94cbf0e61be66d97aa09"), looks := true }, kinds := [], alts := [], laidByText := true, laidKinds := [.data, .data], laidTests := true, laidLooks := .later }
def DeflateMethodsUptoCardSaid : Prop := Claim7.holds Tryz.pinned (.plain (OpenSpec.upto deflateMethodsSpec)) deflateMethodsUptoCard

/-- THE SECOND FORM's CARD OF 'footlockertop.WholePacks'. -/
def wholePacksUptoCard : Claim7 := { stood := { row := wholePacksUptoRow, standIns := [], harness := (true, "417b195de9f2182bbc9bc68269eaa1c113d77cf82d3a94cbf0e61be66d97aa09"), looks := true }, kinds := [], alts := [], laidByText := true, laidKinds := [.data, .data], laidTests := true, laidLooks := .later }
def WholePacksUptoCardSaid : Prop := Claim7.holds Tryz.pinned (.plain (OpenSpec.upto wholePacksSpec)) wholePacksUptoCard

/-- THE SECOND FORM's CARD OF 'footlockertop.WholeTokens'. -/
def wholeTokensUptoCard : Claim7 := { stood := { row := wholeTokensUptoRow, standIns := [], harness := (true, "417b195de9f2182bbc9bc68269eaa1c113d77cf82d3a94cbf0e61be66d97aa09"), looks := true }, kinds := [], alts := [], laidByText := true, laidKinds := [.data, .data], laidTests := true, laidLooks := .later }
def WholeTokensUptoCardSaid : Prop := Claim7.holds Tryz.pinned (.plain (OpenSpec.upto wholeTokensSpec)) wholeTokensUptoCard

/-- THE SECOND FORM's CARD OF 'footlockertop.WholeCodes'. -/
def wholeCodesUptoCard : Claim7 := { stood := { row := wholeCodesUptoRow, standIns := [], harness := (true, "417b195de9f2182bbc9bc68269eaa1c113d77cf82d3a94cbf0e61be66d97aa09"), looks := true }, kinds := [], alts := [], laidByText := true, laidKinds := [.data, .data], laidTests := true, laidLooks := .later }
def WholeCodesUptoCardSaid : Prop := Claim7.holds Tryz.pinned (.plain (OpenSpec.upto wholeCodesSpec)) wholeCodesUptoCard
end Rows
end Go.Proofs.YtldgdofefcehnaaGreatDoor
