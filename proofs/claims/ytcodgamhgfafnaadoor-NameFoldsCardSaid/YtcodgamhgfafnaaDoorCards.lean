/-
  DERIVED. GIVEN WITH THE SEED: THE CARDS: each row of YtcodgamhgfafnaaDoorRows.lean that lists a variable, with what it lists TIED to the program's text (the seventh form; the later family's looks); each row that meets fmt, with fmt's text TOLD by the authors' own Lean function (tested against real Go, not proved from fmt's source: count such statements apart). THE CARD IS WHAT COUNTS. Prove the row's statement (the work); the ties are given (YtcodgamhgfafnaaDoorTie.lean); close each card by the builder's one call (the guide's Derived/Test/ToyasCard.lean, 'card_holds'). Laid BY PROGRAM, IN A SANDBOX (cutbox-door.mjs). By AI agents, Wed Nov 11 2026. No macro, syntax, notation, axiom, sorry.
-/
import Derived.Test.YtcodgamhgfafnaaDoorRows
import GoSem.ClaimSeven
namespace Go.Proofs.YtcodgamhgfafnaaDoor
namespace Rows

/-- THE TIED CARD OF 'footlockerlaw16.NameChecks'. -/
def nameChecksCard : Claim7 := { stood := { row := nameChecksRow, standIns := [], harness := (true, "75ce6ebdfb15cd0e3026a01b3e888dd7f6f2a4e23effa4f3fd10d7aab5a94bef"), looks := false }, kinds := [], alts := [], laidByText := true, laidKinds := [.data, .pinned], laidTests := true, laidLooks := .later }
def NameChecksCardSaid : Prop := Claim7.holds Tryd.pinned (.plain (OpenSpec.ofChange nameChecksSpec)) nameChecksCard

/-- THE TIED CARD OF 'footlockerlaw16.NameLists'. -/
def nameListsCard : Claim7 := { stood := { row := nameListsRow, standIns := [], harness := (true, "75ce6ebdfb15cd0e3026a01b3e888dd7f6f2a4e23effa4f3fd10d7aab5a94bef"), looks := false }, kinds := [], alts := [], laidByText := true, laidKinds := [.data, .pinned], laidTests := true, laidLooks := .later }
def NameListsCardSaid : Prop := Claim7.holds Tryd.pinned (.plain (OpenSpec.ofChange nameListsSpec)) nameListsCard

/-- THE TIED CARD OF 'footlockerlaw16.NameParts'. -/
def namePartsCard : Claim7 := { stood := { row := namePartsRow, standIns := [], harness := (true, "75ce6ebdfb15cd0e3026a01b3e888dd7f6f2a4e23effa4f3fd10d7aab5a94bef"), looks := false }, kinds := [], alts := [], laidByText := true, laidKinds := [.data, .pinned], laidTests := true, laidLooks := .later }
def NamePartsCardSaid : Prop := Claim7.holds Tryd.pinned (.plain (OpenSpec.ofChange namePartsSpec)) namePartsCard

/-- THE TIED CARD OF 'footlockerlaw16.NameJoins'. -/
def nameJoinsCard : Claim7 := { stood := { row := nameJoinsRow, standIns := [], harness := (true, "75ce6ebdfb15cd0e3026a01b3e888dd7f6f2a4e23effa4f3fd10d7aab5a94bef"), looks := false }, kinds := [], alts := [], laidByText := true, laidKinds := [.data, .pinned], laidTests := true, laidLooks := .later }
def NameJoinsCardSaid : Prop := Claim7.holds Tryd.pinned (.plain (OpenSpec.ofChange nameJoinsSpec)) nameJoinsCard

/-- THE TIED CARD OF 'footlockerlaw16.NameFolds'. -/
def nameFoldsCard : Claim7 := { stood := { row := nameFoldsRow, standIns := [], harness := (true, "75ce6ebdfb15cd0e3026a01b3e888dd7f6f2a4e23effa4f3fd10d7aab5a94bef"), looks := false }, kinds := [], alts := [], laidByText := true, laidKinds := [.data, .pinned], laidTests := true, laidLooks := .later }
def NameFoldsCardSaid : Prop := Claim7.holds Tryd.pinned (.plain (OpenSpec.ofChange nameFoldsSpec)) nameFoldsCard

/-- THE SECOND FORM's CARD OF 'footlockerlaw16.NameChecks'. -/
def nameChecksUptoCard : Claim7 := { stood := { row := nameChecksUptoRow, standIns := [], harness := (true, "75ce6ebdfb15cd0e3026a01b3e888dd7f6f2a4e23effa4f3fd10d7aab5a94bef"), looks := false }, kinds := [], alts := [], laidByText := true, laidKinds := [.data, .pinned], laidTests := true, laidLooks := .later }
def NameChecksUptoCardSaid : Prop := Claim7.holds Tryd.pinned (.plain (OpenSpec.upto nameChecksSpec)) nameChecksUptoCard

/-- THE SECOND FORM's CARD OF 'footlockerlaw16.NameLists'. -/
def nameListsUptoCard : Claim7 := { stood := { row := nameListsUptoRow, standIns := [], harness := (true, "75ce6ebdfb15cd0e3026a01b3e888dd7f6f2a4e23effa4f3fd10d7aab5a94bef"), looks := false }, kinds := [], alts := [], laidByText := true, laidKinds := [.data, .pinned], laidTests := true, laidLooks := .later }
def NameListsUptoCardSaid : Prop := Claim7.holds Tryd.pinned (.plain (OpenSpec.upto nameListsSpec)) nameListsUptoCard

/-- THE SECOND FORM's CARD OF 'footlockerlaw16.NameParts'. -/
def namePartsUptoCard : Claim7 := { stood := { row := namePartsUptoRow, standIns := [], harness := (true, "75ce6ebdfb15cd0e3026a01b3e888dd7f6f2a4e23effa4f3fd10d7aab5a94bef"), looks := false }, kinds := [], alts := [], laidByText := true, laidKinds := [.data, .pinned], laidTests := true, laidLooks := .later }
def NamePartsUptoCardSaid : Prop := Claim7.holds Tryd.pinned (.plain (OpenSpec.upto namePartsSpec)) namePartsUptoCard

/-- THE SECOND FORM's CARD OF 'footlockerlaw16.NameJoins'. -/
def nameJoinsUptoCard : Claim7 := { stood := { row := nameJoinsUptoRow, standIns := [], harness := (true, "75ce6ebdfb15cd0e3026a01b3e888dd7f6f2a4e23effa4f3fd10d7aab5a94bef"), looks := false }, kinds := [], alts := [], laidByText := true, laidKinds := [.data, .pinned], laidTests := true, laidLooks := .later }
def NameJoinsUptoCardSaid : Prop := Claim7.holds Tryd.pinned (.plain (OpenSpec.upto nameJoinsSpec)) nameJoinsUptoCard

/-- THE SECOND FORM's CARD OF 'footlockerlaw16.NameFolds'. -/
def nameFoldsUptoCard : Claim7 := { stood := { row := nameFoldsUptoRow, standIns := [], harness := (true, "75ce6ebdfb15cd0e3026a01b3e888dd7f6f2a4e23effa4f3fd10d7aab5a94bef"), looks := false }, kinds := [], alts := [], laidByText := true, laidKinds := [.data, .pinned], laidTests := true, laidLooks := .later }
def NameFoldsUptoCardSaid : Prop := Claim7.holds Tryd.pinned (.plain (OpenSpec.upto nameFoldsSpec)) nameFoldsUptoCard
end Rows
end Go.Proofs.YtcodgamhgfafnaaDoor
