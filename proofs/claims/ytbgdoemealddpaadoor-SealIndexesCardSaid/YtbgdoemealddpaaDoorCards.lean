/-
  DERIVED. GIVEN WITH THE SEED: THE CARDS: each row of YtbgdoemealddpaaDoorRows.lean that lists a variable, with what it lists TIED to the program's text (the seventh form; the later family's looks); each row that meets fmt, with fmt's text TOLD by the authors' own Lean function (tested against real Go, not proved from fmt's source: count such statements apart). THE CARD IS WHAT COUNTS. Prove the row's statement (the work); the ties are given (YtbgdoemealddpaaDoorTie.lean); close each card by the builder's one call (the guide's Derived/Test/ToyasCard.lean, 'card_holds'). Laid BY PROGRAM, IN A SANDBOX (cutbox-door.mjs). By AI agents, Wed Nov 11 2026. No macro, syntax, notation, axiom, sorry.
-/
import Derived.Test.YtbgdoemealddpaaDoorRows
import GoSem.ClaimSeven
namespace Go.Proofs.YtbgdoemealddpaaDoor
namespace Rows

/-- THE TIED CARD OF 'footlockerlaw24.SealWrites'. -/
def sealWritesCard : Claim7 := { stood := { row := sealWritesRow, standIns := [], harness := (true, "239413de4a1d8f2a4ff6021681cb2ab362bf8008623e8c083e64db155970a35a"), looks := false }, kinds := [], alts := [], laidByText := true, laidKinds := [.data], laidTests := true, laidLooks := .later }
def SealWritesCardSaid : Prop := Claim7.holds Tryd.pinned (.plain (OpenSpec.ofChange sealWritesSpec)) sealWritesCard

/-- THE TIED CARD OF 'footlockerlaw24.SealParses'. -/
def sealParsesCard : Claim7 := { stood := { row := sealParsesRow, standIns := [], harness := (true, "239413de4a1d8f2a4ff6021681cb2ab362bf8008623e8c083e64db155970a35a"), looks := false }, kinds := [], alts := [], laidByText := true, laidKinds := [.data], laidTests := true, laidLooks := .later }
def SealParsesCardSaid : Prop := Claim7.holds Tryd.pinned (.plain (OpenSpec.ofChange sealParsesSpec)) sealParsesCard

/-- THE TIED CARD OF 'footlockerlaw24.SealBack'. -/
def sealBackCard : Claim7 := { stood := { row := sealBackRow, standIns := [], harness := (true, "239413de4a1d8f2a4ff6021681cb2ab362bf8008623e8c083e64db155970a35a"), looks := false }, kinds := [], alts := [], laidByText := true, laidKinds := [.data], laidTests := true, laidLooks := .later }
def SealBackCardSaid : Prop := Claim7.holds Tryd.pinned (.plain (OpenSpec.ofChange sealBackSpec)) sealBackCard

/-- THE TIED CARD OF 'footlockerlaw24.SealIndexes'. -/
def sealIndexesCard : Claim7 := { stood := { row := sealIndexesRow, standIns := [], harness := (true, "239413de4a1d8f2a4ff6021681cb2ab362bf8008623e8c083e64db155970a35a"), looks := false }, kinds := [], alts := [], laidByText := true, laidKinds := [.data], laidTests := true, laidLooks := .later }
def SealIndexesCardSaid : Prop := Claim7.holds Tryd.pinned (.plain (OpenSpec.ofChange sealIndexesSpec)) sealIndexesCard

/-- THE SECOND FORM's CARD OF 'footlockerlaw24.SealWrites'. -/
def sealWritesUptoCard : Claim7 := { stood := { row := sealWritesUptoRow, standIns := [], harness := (true, "239413de4a1d8f2a4ff6021681cb2ab362bf8008623e8c083e64db155970a35a"), looks := false }, kinds := [], alts := [], laidByText := true, laidKinds := [.data], laidTests := true, laidLooks := .later }
def SealWritesUptoCardSaid : Prop := Claim7.holds Tryd.pinned (.plain (OpenSpec.upto sealWritesSpec)) sealWritesUptoCard

/-- THE SECOND FORM's CARD OF 'footlockerlaw24.SealParses'. -/
def sealParsesUptoCard : Claim7 := { stood := { row := sealParsesUptoRow, standIns := [], harness := (true, "239413de4a1d8f2a4ff6021681cb2ab362bf8008623e8c083e64db155970a35a"), looks := false }, kinds := [], alts := [], laidByText := true, laidKinds := [.data], laidTests := true, laidLooks := .later }
def SealParsesUptoCardSaid : Prop := Claim7.holds Tryd.pinned (.plain (OpenSpec.upto sealParsesSpec)) sealParsesUptoCard

/-- THE SECOND FORM's CARD OF 'footlockerlaw24.SealBack'. -/
def sealBackUptoCard : Claim7 := { stood := { row := sealBackUptoRow, standIns := [], harness := (true, "239413de4a1d8f2a4ff6021681cb2ab362bf8008623e8c083e64db155970a35a"), looks := false }, kinds := [], alts := [], laidByText := true, laidKinds := [.data], laidTests := true, laidLooks := .later }
def SealBackUptoCardSaid : Prop := Claim7.holds Tryd.pinned (.plain (OpenSpec.upto sealBackSpec)) sealBackUptoCard

/-- THE SECOND FORM's CARD OF 'footlockerlaw24.SealIndexes'. -/
def sealIndexesUptoCard : Claim7 := { stood := { row := sealIndexesUptoRow, standIns := [], harness := (true, "239413de4a1d8f2a4ff6021681cb2ab362bf8008623e8c083e64db155970a35a"), looks := false }, kinds := [], alts := [], laidByText := true, laidKinds := [.data], laidTests := true, laidLooks := .later }
def SealIndexesUptoCardSaid : Prop := Claim7.holds Tryd.pinned (.plain (OpenSpec.upto sealIndexesSpec)) sealIndexesUptoCard
end Rows
end Go.Proofs.YtbgdoemealddpaaDoor
