/-
  No cell of these rows narrows 'for every input' (looked for: loops, veiled, ifaces, maps, wideKeys, modest, calm, conditions, laid).
  DERIVED. THE GIVEN ROWS OF THIS SEAT. 6 by the template 'for every input the law returns true; each argument reads behind the call as it read before'; 0 by the template 'total and deterministic' (their statements: YtfnjjeopojdnjaaTotals.lean).
  GIVEN WITH THE SEED: the statements are not yours to turn. If you find one false, say at which input.
  Laid BY PROGRAM, IN A SANDBOX (cutbox-rows.mjs): the forced cells as the released guide's own fill.sh prints them over the translation a6d0e32de3c6458a… (all of the seat's roots in one cut). By AI agents, Wed Nov 11 2026. No macro, syntax, notation, axiom, sorry.
-/
import Derived.Test.YtfnjjeopojdnjaaChecked
import GoSem.Claim
import GoSem.ClaimJoined
import GoSem.ClaimMapViews
import Derived.JoinedTies
import Derived.KernelRfl
namespace Go.Proofs.Ytfnjjeopojdnjaa
/- THE CELL 'sum', in the pinned program and in every row, IS THE sha256 OF THE DUMP (.gsa) THAT YtfnjjeopojdnjaaProg.lean LOADS. Nothing in Lean hashes anything: it is a label: what it is worth is what the hold of that sum in a sandbox is worth. -/
noncomputable def Try.pinned : Pinned := { name := "ytfnjjeopojdnjaa", sum := "a6d0e32de3c6458a5027b64f7ac79c5a634b51cc58e21d7a0fe36603589d9e1f", checked := Try.checked }
namespace Rows
def none {H : Type} : Left H := { results := [], args := [] }

/-- 'footlockerlaw09.LengthsMade': WHATEVER THE INPUT: true; the input reads as it did. -/
def lengthsMadeSpec : ChangeSpec := { name := "lengthsMade", fn := fun _ => fun
  | [d1, d2] => { results := [.lit (.bool true)], args := [d1, d2] }
  | _ => none }
def lengthsMadeRow : OpenClaim := { program := "ytfnjjeopojdnjaa", sum := "a6d0e32de3c6458a5027b64f7ac79c5a634b51cc58e21d7a0fe36603589d9e1f", func := "footlocker/footlockerlaw09.LengthsMade", spec := "lengthsMade", unfollowed := true, recurses := true, apart := false }
def LengthsMadeSaid : Prop := lengthsMadeRow.holds Try.pinned (OpenSpec.ofChange lengthsMadeSpec)

/-- ITS FALSE NEIGHBOUR: 'it returns false'. Refute it at one input. -/
def lengthsMadeWrong : ChangeSpec := { name := "lengthsMade", fn := fun _ => fun
  | [d1, d2] => { results := [.lit (.bool false)], args := [d1, d2] }
  | _ => none }
def LengthsMadeWrongFalsely : Prop := lengthsMadeRow.holds Try.pinned (OpenSpec.ofChange lengthsMadeWrong)

/-- 'footlockerlaw09.LengthsLeast': WHATEVER THE INPUT: true; the input reads as it did. -/
def lengthsLeastSpec : ChangeSpec := { name := "lengthsLeast", fn := fun _ => fun
  | [d1, d2, d3] => { results := [.lit (.bool true)], args := [d1, d2, d3] }
  | _ => none }
def lengthsLeastRow : OpenClaim := { program := "ytfnjjeopojdnjaa", sum := "a6d0e32de3c6458a5027b64f7ac79c5a634b51cc58e21d7a0fe36603589d9e1f", func := "footlocker/footlockerlaw09.LengthsLeast", spec := "lengthsLeast", unfollowed := true, recurses := true, apart := false }
def LengthsLeastSaid : Prop := lengthsLeastRow.holds Try.pinned (OpenSpec.ofChange lengthsLeastSpec)

/-- ITS FALSE NEIGHBOUR: 'it returns false'. Refute it at one input. -/
def lengthsLeastWrong : ChangeSpec := { name := "lengthsLeast", fn := fun _ => fun
  | [d1, d2, d3] => { results := [.lit (.bool false)], args := [d1, d2, d3] }
  | _ => none }
def LengthsLeastWrongFalsely : Prop := lengthsLeastRow.holds Try.pinned (OpenSpec.ofChange lengthsLeastWrong)

/-- 'footlockerlaw09.LengthsCosts': WHATEVER THE INPUT: true; the input reads as it did. -/
def lengthsCostsSpec : ChangeSpec := { name := "lengthsCosts", fn := fun _ => fun
  | [d1, d2] => { results := [.lit (.bool true)], args := [d1, d2] }
  | _ => none }
def lengthsCostsRow : OpenClaim := { program := "ytfnjjeopojdnjaa", sum := "a6d0e32de3c6458a5027b64f7ac79c5a634b51cc58e21d7a0fe36603589d9e1f", func := "footlocker/footlockerlaw09.LengthsCosts", spec := "lengthsCosts", unfollowed := true, recurses := true, apart := false }
def LengthsCostsSaid : Prop := lengthsCostsRow.holds Try.pinned (OpenSpec.ofChange lengthsCostsSpec)

/-- ITS FALSE NEIGHBOUR: 'it returns false'. Refute it at one input. -/
def lengthsCostsWrong : ChangeSpec := { name := "lengthsCosts", fn := fun _ => fun
  | [d1, d2] => { results := [.lit (.bool false)], args := [d1, d2] }
  | _ => none }
def LengthsCostsWrongFalsely : Prop := lengthsCostsRow.holds Try.pinned (OpenSpec.ofChange lengthsCostsWrong)

/-- 'footlockerlaw09.LengthsOften': WHATEVER THE INPUT: true; the input reads as it did. -/
def lengthsOftenSpec : ChangeSpec := { name := "lengthsOften", fn := fun _ => fun
  | [d1, d2] => { results := [.lit (.bool true)], args := [d1, d2] }
  | _ => none }
def lengthsOftenRow : OpenClaim := { program := "ytfnjjeopojdnjaa", sum := "a6d0e32de3c6458a5027b64f7ac79c5a634b51cc58e21d7a0fe36603589d9e1f", func := "footlocker/footlockerlaw09.LengthsOften", spec := "lengthsOften", unfollowed := true, recurses := true, apart := false }
def LengthsOftenSaid : Prop := lengthsOftenRow.holds Try.pinned (OpenSpec.ofChange lengthsOftenSpec)

/-- ITS FALSE NEIGHBOUR: 'it returns false'. Refute it at one input. -/
def lengthsOftenWrong : ChangeSpec := { name := "lengthsOften", fn := fun _ => fun
  | [d1, d2] => { results := [.lit (.bool false)], args := [d1, d2] }
  | _ => none }
def LengthsOftenWrongFalsely : Prop := lengthsOftenRow.holds Try.pinned (OpenSpec.ofChange lengthsOftenWrong)

/-- 'footlockerlaw09.LengthsEven': WHATEVER THE INPUT: true; the input reads as it did. -/
def lengthsEvenSpec : ChangeSpec := { name := "lengthsEven", fn := fun _ => fun
  | [d1, d2, d3] => { results := [.lit (.bool true)], args := [d1, d2, d3] }
  | _ => none }
def lengthsEvenRow : OpenClaim := { program := "ytfnjjeopojdnjaa", sum := "a6d0e32de3c6458a5027b64f7ac79c5a634b51cc58e21d7a0fe36603589d9e1f", func := "footlocker/footlockerlaw09.LengthsEven", spec := "lengthsEven", unfollowed := true, recurses := true, apart := false }
def LengthsEvenSaid : Prop := lengthsEvenRow.holds Try.pinned (OpenSpec.ofChange lengthsEvenSpec)

/-- ITS FALSE NEIGHBOUR: 'it returns false'. Refute it at one input. -/
def lengthsEvenWrong : ChangeSpec := { name := "lengthsEven", fn := fun _ => fun
  | [d1, d2, d3] => { results := [.lit (.bool false)], args := [d1, d2, d3] }
  | _ => none }
def LengthsEvenWrongFalsely : Prop := lengthsEvenRow.holds Try.pinned (OpenSpec.ofChange lengthsEvenWrong)

/-- 'footlockerlaw09.LengthsTurned': WHATEVER THE INPUT: true; the input reads as it did. -/
def lengthsTurnedSpec : ChangeSpec := { name := "lengthsTurned", fn := fun _ => fun
  | [d1, d2, d3] => { results := [.lit (.bool true)], args := [d1, d2, d3] }
  | _ => none }
def lengthsTurnedRow : OpenClaim := { program := "ytfnjjeopojdnjaa", sum := "a6d0e32de3c6458a5027b64f7ac79c5a634b51cc58e21d7a0fe36603589d9e1f", func := "footlocker/footlockerlaw09.LengthsTurned", spec := "lengthsTurned", unfollowed := true, recurses := true, apart := false }
def LengthsTurnedSaid : Prop := lengthsTurnedRow.holds Try.pinned (OpenSpec.ofChange lengthsTurnedSpec)

/-- ITS FALSE NEIGHBOUR: 'it returns false'. Refute it at one input. -/
def lengthsTurnedWrong : ChangeSpec := { name := "lengthsTurned", fn := fun _ => fun
  | [d1, d2, d3] => { results := [.lit (.bool false)], args := [d1, d2, d3] }
  | _ => none }
def LengthsTurnedWrongFalsely : Prop := lengthsTurnedRow.holds Try.pinned (OpenSpec.ofChange lengthsTurnedWrong)

/- THE SECOND FORM. 'bulk': how many values and letters a reading holds, each counted each time it is reached (what is shared counts as often as it is met; a slice's spare places count too). A statement '..UptoSaid' is the law's where the arguments, and the package variables that the reading takes, are together of bulk at most 1048576: NARROWER than '..Said'. Prove '..Said' where nothing that the law and all that it calls make is longer than what came in: it says more and counts as full. Else prove '..UptoSaid'. A law counts once. -/
mutual
def uptoBulk {H : Type} : DataW H → Nat
  | .lit (.string bytes) => bytes.length + 1
  | .lit _ => 1
  | .nil => 1
  | .ptr d => uptoBulk d + 1
  | .slice elems spare => uptoBulkAll elems + uptoBulkAll spare + 1
  | .agg parts => uptoBulkAll parts + 1
  | .iface _ d => uptoBulk d + 1
  | .map entries => uptoBulkEntries entries + 1
  | .held _ => 1
def uptoBulkAll {H : Type} : List (DataW H) → Nat
  | [] => 0
  | d :: r => uptoBulk d + uptoBulkAll r
def uptoBulkEntries {H : Type} : List (Lit × DataW H) → Nat
  | [] => 0
  | x :: r => uptoBulkEntry x + uptoBulkEntries r
def uptoBulkEntry {H : Type} : Lit × DataW H → Nat
  | (.string bytes, d) => bytes.length + uptoBulk d + 1
  | (_, d) => uptoBulk d + 1
 end
def uptoSmall : (H : Type) → List (DataW H) → Bool := fun _ ds => decide (uptoBulkAll ds ≤ 1048576)
def OpenSpec.upto (s : _root_.Go.ChangeSpec) : _root_.Go.OpenSpec := { _root_.Go.OpenSpec.ofChange s with cond := some uptoSmall }

/-- 'footlockerlaw09.LengthsMade', WHERE WHAT IT READS IS OF BULK AT MOST 1048576: true; the input reads as it did. -/
def lengthsMadeUptoRow : OpenClaim := { program := "ytfnjjeopojdnjaa", sum := "a6d0e32de3c6458a5027b64f7ac79c5a634b51cc58e21d7a0fe36603589d9e1f", func := "footlocker/footlockerlaw09.LengthsMade", spec := "lengthsMade", unfollowed := true, recurses := true, apart := false, narrowed := true }
def LengthsMadeUptoSaid : Prop := lengthsMadeUptoRow.holds Try.pinned (OpenSpec.upto lengthsMadeSpec)

/-- 'footlockerlaw09.LengthsLeast', WHERE WHAT IT READS IS OF BULK AT MOST 1048576: true; the input reads as it did. -/
def lengthsLeastUptoRow : OpenClaim := { program := "ytfnjjeopojdnjaa", sum := "a6d0e32de3c6458a5027b64f7ac79c5a634b51cc58e21d7a0fe36603589d9e1f", func := "footlocker/footlockerlaw09.LengthsLeast", spec := "lengthsLeast", unfollowed := true, recurses := true, apart := false, narrowed := true }
def LengthsLeastUptoSaid : Prop := lengthsLeastUptoRow.holds Try.pinned (OpenSpec.upto lengthsLeastSpec)

/-- 'footlockerlaw09.LengthsCosts', WHERE WHAT IT READS IS OF BULK AT MOST 1048576: true; the input reads as it did. -/
def lengthsCostsUptoRow : OpenClaim := { program := "ytfnjjeopojdnjaa", sum := "a6d0e32de3c6458a5027b64f7ac79c5a634b51cc58e21d7a0fe36603589d9e1f", func := "footlocker/footlockerlaw09.LengthsCosts", spec := "lengthsCosts", unfollowed := true, recurses := true, apart := false, narrowed := true }
def LengthsCostsUptoSaid : Prop := lengthsCostsUptoRow.holds Try.pinned (OpenSpec.upto lengthsCostsSpec)

/-- 'footlockerlaw09.LengthsOften', WHERE WHAT IT READS IS OF BULK AT MOST 1048576: true; the input reads as it did. -/
def lengthsOftenUptoRow : OpenClaim := { program := "ytfnjjeopojdnjaa", sum := "a6d0e32de3c6458a5027b64f7ac79c5a634b51cc58e21d7a0fe36603589d9e1f", func := "footlocker/footlockerlaw09.LengthsOften", spec := "lengthsOften", unfollowed := true, recurses := true, apart := false, narrowed := true }
def LengthsOftenUptoSaid : Prop := lengthsOftenUptoRow.holds Try.pinned (OpenSpec.upto lengthsOftenSpec)

/-- 'footlockerlaw09.LengthsEven', WHERE WHAT IT READS IS OF BULK AT MOST 1048576: true; the input reads as it did. -/
def lengthsEvenUptoRow : OpenClaim := { program := "ytfnjjeopojdnjaa", sum := "a6d0e32de3c6458a5027b64f7ac79c5a634b51cc58e21d7a0fe36603589d9e1f", func := "footlocker/footlockerlaw09.LengthsEven", spec := "lengthsEven", unfollowed := true, recurses := true, apart := false, narrowed := true }
def LengthsEvenUptoSaid : Prop := lengthsEvenUptoRow.holds Try.pinned (OpenSpec.upto lengthsEvenSpec)

/-- 'footlockerlaw09.LengthsTurned', WHERE WHAT IT READS IS OF BULK AT MOST 1048576: true; the input reads as it did. -/
def lengthsTurnedUptoRow : OpenClaim := { program := "ytfnjjeopojdnjaa", sum := "a6d0e32de3c6458a5027b64f7ac79c5a634b51cc58e21d7a0fe36603589d9e1f", func := "footlocker/footlockerlaw09.LengthsTurned", spec := "lengthsTurned", unfollowed := true, recurses := true, apart := false, narrowed := true }
def LengthsTurnedUptoSaid : Prop := lengthsTurnedUptoRow.holds Try.pinned (OpenSpec.upto lengthsTurnedSpec)

end Rows
end Go.Proofs.Ytfnjjeopojdnjaa
