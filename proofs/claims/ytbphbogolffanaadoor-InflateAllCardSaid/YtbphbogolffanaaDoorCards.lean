/-
  DERIVED. GIVEN WITH THE SEED: THE CARDS: each row of YtbphbogolffanaaDoorRows.lean that lists a variable, with what it lists TIED to the program's text (the seventh form; the later family's looks); each row that meets fmt, with fmt's text TOLD by the authors' own Lean function (tested against real Go, not proved from fmt's source: count such statements apart). THE CARD IS WHAT COUNTS. Prove the row's statement (the work); the ties are given (YtbphbogolffanaaDoorTie.lean); close each card by the builder's one call (the guide's Derived/Test/ToyasCard.lean, 'card_holds'). Laid BY PROGRAM, IN A SANDBOX (cutbox-door.mjs). By AI agents, Wed Nov 11 2026. No macro, syntax, notation, axiom, sorry.
-/
import Derived.Test.YtbphbogolffanaaDoorRows
import GoSem.ClaimSeven
namespace Go.Proofs.YtbphbogolffanaaDoor
namespace Rows

/-- THE TIED CARD OF 'footlockerlaw12.InflateAll'. -/
def inflateAllCard : Claim7 := { stood := { row := inflateAllRow, standIns := [], harness := (true, "974be2699cdf7d887c696d503de7d0ee19a377f35ebf17f090467ec47e5b4f10"), looks := true }, kinds := [], alts := [], laidByText := true, laidKinds := [.data, .data], laidTests := true, laidLooks := .later }
def InflateAllCardSaid : Prop := Claim7.holds Tryd.pinned (.plain (OpenSpec.ofChange inflateAllSpec)) inflateAllCard

/-- THE TIED CARD OF 'footlockerlaw12.InflateTakes'. -/
def inflateTakesCard : Claim7 := { stood := { row := inflateTakesRow, standIns := [], harness := (true, "974be2699cdf7d887c696d503de7d0ee19a377f35ebf17f090467ec47e5b4f10"), looks := true }, kinds := [], alts := [], laidByText := true, laidKinds := [.data, .data], laidTests := true, laidLooks := .later }
def InflateTakesCardSaid : Prop := Claim7.holds Tryd.pinned (.plain (OpenSpec.ofChange inflateTakesSpec)) inflateTakesCard

/-- THE TIED CARD OF 'footlockerlaw12.InflateStored'. -/
def inflateStoredCard : Claim7 := { stood := { row := inflateStoredRow, standIns := [], harness := (true, "974be2699cdf7d887c696d503de7d0ee19a377f35ebf17f090467ec47e5b4f10"), looks := true }, kinds := [], alts := [], laidByText := true, laidKinds := [.data, .data], laidTests := true, laidLooks := .later }
def InflateStoredCardSaid : Prop := Claim7.holds Tryd.pinned (.plain (OpenSpec.ofChange inflateStoredSpec)) inflateStoredCard

/-- THE SECOND FORM's CARD OF 'footlockerlaw12.InflateAll'. -/
def inflateAllUptoCard : Claim7 := { stood := { row := inflateAllUptoRow, standIns := [], harness := (true, "974be2699cdf7d887c696d503de7d0ee19a377f35ebf17f090467ec47e5b4f10"), looks := true }, kinds := [], alts := [], laidByText := true, laidKinds := [.data, .data], laidTests := true, laidLooks := .later }
def InflateAllUptoCardSaid : Prop := Claim7.holds Tryd.pinned (.plain (OpenSpec.upto inflateAllSpec)) inflateAllUptoCard

/-- THE SECOND FORM's CARD OF 'footlockerlaw12.InflateTakes'. -/
def inflateTakesUptoCard : Claim7 := { stood := { row := inflateTakesUptoRow, standIns := [], harness := (true, "974be2699cdf7d887c696d503de7d0ee19a377f35ebf17f090467ec47e5b4f10"), looks := true }, kinds := [], alts := [], laidByText := true, laidKinds := [.data, .data], laidTests := true, laidLooks := .later }
def InflateTakesUptoCardSaid : Prop := Claim7.holds Tryd.pinned (.plain (OpenSpec.upto inflateTakesSpec)) inflateTakesUptoCard

/-- THE SECOND FORM's CARD OF 'footlockerlaw12.InflateStored'. -/
def inflateStoredUptoCard : Claim7 := { stood := { row := inflateStoredUptoRow, standIns := [], harness := (true, "974be2699cdf7d887c696d503de7d0ee19a377f35ebf17f090467ec47e5b4f10"), looks := true }, kinds := [], alts := [], laidByText := true, laidKinds := [.data, .data], laidTests := true, laidLooks := .later }
def InflateStoredUptoCardSaid : Prop := Claim7.holds Tryd.pinned (.plain (OpenSpec.upto inflateStoredSpec)) inflateStoredUptoCard
end Rows
end Go.Proofs.YtbphbogolffanaaDoor
