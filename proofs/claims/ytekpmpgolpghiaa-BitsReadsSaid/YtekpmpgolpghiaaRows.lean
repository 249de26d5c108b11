/-
  No cell of these rows narrows 'for every input' (looked for: loops, veiled, ifaces, maps, wideKeys, modest, calm, conditions, laid).
  DERIVED. THE GIVEN ROWS OF THIS SEAT. 7 by the template 'for every input the law returns true; each argument reads behind the call as it read before'; 0 by the template 'total and deterministic' (their statements: YtekpmpgolpghiaaTotals.lean).
  GIVEN WITH THE SEED: the statements are not yours to turn. If you find one false, say at which input.
  Laid BY PROGRAM, IN A SANDBOX (cutbox-rows.mjs): the forced cells as the released guide's own fill.sh prints them over the translation 3db8b003c928389a… (all of the seat's roots in one cut). By AI agents, Wed Nov 11 2026. No macro, syntax, notation, axiom, sorry.
-/
import Derived.Test.YtekpmpgolpghiaaChecked
import GoSem.Claim
import GoSem.ClaimJoined
import GoSem.ClaimMapViews
import Derived.JoinedTies
import Derived.KernelRfl
namespace Go.Proofs.Ytekpmpgolpghiaa
/- THE CELL 'sum', in the pinned program and in every row, IS THE sha256 OF THE DUMP (.gsa) THAT YtekpmpgolpghiaaProg.lean LOADS. Nothing in Lean hashes anything: it is a label: what it is worth is what the hold of that sum in a sandbox is worth. -/
noncomputable def Try.pinned : Pinned := { name := "ytekpmpgolpghiaa", sum := "3db8b003c928389ac25192c02a4145e318843140d176c8cc942635de77d2d4b7", checked := Try.checked }
namespace Rows
def none {H : Type} : Left H := { results := [], args := [] }

/-- 'footlockerlaw07.LittleNumbers': WHATEVER THE INPUT: true; the input reads as it did. -/
def littleNumbersSpec : ChangeSpec := { name := "littleNumbers", fn := fun _ => fun
  | [d1, d2, d3] => { results := [.lit (.bool true)], args := [d1, d2, d3] }
  | _ => none }
def littleNumbersRow : OpenClaim := { program := "ytekpmpgolpghiaa", sum := "3db8b003c928389ac25192c02a4145e318843140d176c8cc942635de77d2d4b7", func := "footlocker/footlockerlaw07.LittleNumbers", spec := "littleNumbers", apart := false }
def LittleNumbersSaid : Prop := littleNumbersRow.holds Try.pinned (OpenSpec.ofChange littleNumbersSpec)

/-- ITS FALSE NEIGHBOUR: 'it returns false'. Refute it at one input. -/
def littleNumbersWrong : ChangeSpec := { name := "littleNumbers", fn := fun _ => fun
  | [d1, d2, d3] => { results := [.lit (.bool false)], args := [d1, d2, d3] }
  | _ => none }
def LittleNumbersWrongFalsely : Prop := littleNumbersRow.holds Try.pinned (OpenSpec.ofChange littleNumbersWrong)

/-- 'footlockerlaw07.LittleRows': WHATEVER THE INPUT: true; the input reads as it did. -/
def littleRowsSpec : ChangeSpec := { name := "littleRows", fn := fun _ => fun
  | [d1, d2] => { results := [.lit (.bool true)], args := [d1, d2] }
  | _ => none }
def littleRowsRow : OpenClaim := { program := "ytekpmpgolpghiaa", sum := "3db8b003c928389ac25192c02a4145e318843140d176c8cc942635de77d2d4b7", func := "footlocker/footlockerlaw07.LittleRows", spec := "littleRows", apart := false }
def LittleRowsSaid : Prop := littleRowsRow.holds Try.pinned (OpenSpec.ofChange littleRowsSpec)

/-- ITS FALSE NEIGHBOUR: 'it returns false'. Refute it at one input. -/
def littleRowsWrong : ChangeSpec := { name := "littleRows", fn := fun _ => fun
  | [d1, d2] => { results := [.lit (.bool false)], args := [d1, d2] }
  | _ => none }
def LittleRowsWrongFalsely : Prop := littleRowsRow.holds Try.pinned (OpenSpec.ofChange littleRowsWrong)

/-- 'footlockerlaw07.LittleCuts': WHATEVER THE INPUT: true; the input reads as it did. -/
def littleCutsSpec : ChangeSpec := { name := "littleCuts", fn := fun _ => fun
  | [d1, d2, d3] => { results := [.lit (.bool true)], args := [d1, d2, d3] }
  | _ => none }
def littleCutsRow : OpenClaim := { program := "ytekpmpgolpghiaa", sum := "3db8b003c928389ac25192c02a4145e318843140d176c8cc942635de77d2d4b7", func := "footlocker/footlockerlaw07.LittleCuts", spec := "littleCuts", apart := false }
def LittleCutsSaid : Prop := littleCutsRow.holds Try.pinned (OpenSpec.ofChange littleCutsSpec)

/-- ITS FALSE NEIGHBOUR: 'it returns false'. Refute it at one input. -/
def littleCutsWrong : ChangeSpec := { name := "littleCuts", fn := fun _ => fun
  | [d1, d2, d3] => { results := [.lit (.bool false)], args := [d1, d2, d3] }
  | _ => none }
def LittleCutsWrongFalsely : Prop := littleCutsRow.holds Try.pinned (OpenSpec.ofChange littleCutsWrong)

/-- 'footlockerlaw08.BitsPlay': WHATEVER THE INPUT: true; the input reads as it did. -/
def bitsPlaySpec : ChangeSpec := { name := "bitsPlay", fn := fun _ => fun
  | [d] => { results := [.lit (.bool true)], args := [d] }
  | _ => none }
def bitsPlayRow : OpenClaim := { program := "ytekpmpgolpghiaa", sum := "3db8b003c928389ac25192c02a4145e318843140d176c8cc942635de77d2d4b7", func := "footlocker/footlockerlaw08.BitsPlay", spec := "bitsPlay", apart := false }
def BitsPlaySaid : Prop := bitsPlayRow.holds Try.pinned (OpenSpec.ofChange bitsPlaySpec)

/-- ITS FALSE NEIGHBOUR: 'it returns false'. Refute it at one input. -/
def bitsPlayWrong : ChangeSpec := { name := "bitsPlay", fn := fun _ => fun
  | [d] => { results := [.lit (.bool false)], args := [d] }
  | _ => none }
def BitsPlayWrongFalsely : Prop := bitsPlayRow.holds Try.pinned (OpenSpec.ofChange bitsPlayWrong)

/-- 'footlockerlaw08.BitsReads': WHATEVER THE INPUT: true; the input reads as it did. -/
def bitsReadsSpec : ChangeSpec := { name := "bitsReads", fn := fun _ => fun
  | [d1, d2] => { results := [.lit (.bool true)], args := [d1, d2] }
  | _ => none }
def bitsReadsRow : OpenClaim := { program := "ytekpmpgolpghiaa", sum := "3db8b003c928389ac25192c02a4145e318843140d176c8cc942635de77d2d4b7", func := "footlocker/footlockerlaw08.BitsReads", spec := "bitsReads", apart := false }
def BitsReadsSaid : Prop := bitsReadsRow.holds Try.pinned (OpenSpec.ofChange bitsReadsSpec)

/-- ITS FALSE NEIGHBOUR: 'it returns false'. Refute it at one input. -/
def bitsReadsWrong : ChangeSpec := { name := "bitsReads", fn := fun _ => fun
  | [d1, d2] => { results := [.lit (.bool false)], args := [d1, d2] }
  | _ => none }
def BitsReadsWrongFalsely : Prop := bitsReadsRow.holds Try.pinned (OpenSpec.ofChange bitsReadsWrong)

/-- 'footlockerlaw08.BitsBack': WHATEVER THE INPUT: true; the input reads as it did. -/
def bitsBackSpec : ChangeSpec := { name := "bitsBack", fn := fun _ => fun
  | [d] => { results := [.lit (.bool true)], args := [d] }
  | _ => none }
def bitsBackRow : OpenClaim := { program := "ytekpmpgolpghiaa", sum := "3db8b003c928389ac25192c02a4145e318843140d176c8cc942635de77d2d4b7", func := "footlocker/footlockerlaw08.BitsBack", spec := "bitsBack", apart := false }
def BitsBackSaid : Prop := bitsBackRow.holds Try.pinned (OpenSpec.ofChange bitsBackSpec)

/-- ITS FALSE NEIGHBOUR: 'it returns false'. Refute it at one input. -/
def bitsBackWrong : ChangeSpec := { name := "bitsBack", fn := fun _ => fun
  | [d] => { results := [.lit (.bool false)], args := [d] }
  | _ => none }
def BitsBackWrongFalsely : Prop := bitsBackRow.holds Try.pinned (OpenSpec.ofChange bitsBackWrong)

/-- 'footlockerlaw08.BitsBytes': WHATEVER THE INPUT: true; the input reads as it did. -/
def bitsBytesSpec : ChangeSpec := { name := "bitsBytes", fn := fun _ => fun
  | [d1, d2, d3, d4] => { results := [.lit (.bool true)], args := [d1, d2, d3, d4] }
  | _ => none }
def bitsBytesRow : OpenClaim := { program := "ytekpmpgolpghiaa", sum := "3db8b003c928389ac25192c02a4145e318843140d176c8cc942635de77d2d4b7", func := "footlocker/footlockerlaw08.BitsBytes", spec := "bitsBytes", apart := false }
def BitsBytesSaid : Prop := bitsBytesRow.holds Try.pinned (OpenSpec.ofChange bitsBytesSpec)

/-- ITS FALSE NEIGHBOUR: 'it returns false'. Refute it at one input. -/
def bitsBytesWrong : ChangeSpec := { name := "bitsBytes", fn := fun _ => fun
  | [d1, d2, d3, d4] => { results := [.lit (.bool false)], args := [d1, d2, d3, d4] }
  | _ => none }
def BitsBytesWrongFalsely : Prop := bitsBytesRow.holds Try.pinned (OpenSpec.ofChange bitsBytesWrong)

/- THE SECOND FORM. 'bulk': how many values and letters a reading holds, each counted each time it is reached (what is shared counts as often as it is met; a slice's spare places count too). A statement '..UptoSaid' is the law's where the arguments, and the package variables that the reading takes, are together of bulk at most 1048576: NARROWER than '..Said'. Prove '..Said' where nothing that the law and all that it calls make is longer than what came in: it says more and counts as full. Else prove '..UptoSaid'. A law counts once. -/
mutual
def uptoBulk {H : Type} : DataW H → Nat
  | .lit (.string bytes) => bytes.length + 1
  | .lit _ => 1
  | .nil => 1
  | .ptr d => uptoBulk d + 1
  | .slice elems spare => uptoBulkAll elems + uptoBulkAll spare + 1
  | .agg parts => uptoBulkAll parts + 1
  | .iface _ d => uptoBulk d + 1
  | .map entries => uptoBulkEntries entries + 1
  | .held _ => 1
def uptoBulkAll {H : Type} : List (DataW H) → Nat
  | [] => 0
  | d :: r => uptoBulk d + uptoBulkAll r
def uptoBulkEntries {H : Type} : List (Lit × DataW H) → Nat
  | [] => 0
  | x :: r => uptoBulkEntry x + uptoBulkEntries r
def uptoBulkEntry {H : Type} : Lit × DataW H → Nat
  | (.string bytes, d) => bytes.length + uptoBulk d + 1
  | (_, d) => uptoBulk d + 1
 end
def uptoSmall : (H : Type) → List (DataW H) → Bool := fun _ ds => decide (uptoBulkAll ds ≤ 1048576)
def OpenSpec.upto (s : _root_.Go.ChangeSpec) : _root_.Go.OpenSpec := { _root_.Go.OpenSpec.ofChange s with cond := some uptoSmall }

/-- 'footlockerlaw07.LittleNumbers', WHERE WHAT IT READS IS OF BULK AT MOST 1048576: true; the input reads as it did. -/
def littleNumbersUptoRow : OpenClaim := { program := "ytekpmpgolpghiaa", sum := "3db8b003c928389ac25192c02a4145e318843140d176c8cc942635de77d2d4b7", func := "footlocker/footlockerlaw07.LittleNumbers", spec := "littleNumbers", apart := false, narrowed := true }
def LittleNumbersUptoSaid : Prop := littleNumbersUptoRow.holds Try.pinned (OpenSpec.upto littleNumbersSpec)

/-- 'footlockerlaw07.LittleRows', WHERE WHAT IT READS IS OF BULK AT MOST 1048576: true; the input reads as it did. -/
def littleRowsUptoRow : OpenClaim := { program := "ytekpmpgolpghiaa", sum := "3db8b003c928389ac25192c02a4145e318843140d176c8cc942635de77d2d4b7", func := "footlocker/footlockerlaw07.LittleRows", spec := "littleRows", apart := false, narrowed := true }
def LittleRowsUptoSaid : Prop := littleRowsUptoRow.holds Try.pinned (OpenSpec.upto littleRowsSpec)

/-- 'footlockerlaw07.LittleCuts', WHERE WHAT IT READS IS OF BULK AT MOST 1048576: true; the input reads as it did. -/
def littleCutsUptoRow : OpenClaim := { program := "ytekpmpgolpghiaa", sum := "3db8b003c928389ac25192c02a4145e318843140d176c8cc942635de77d2d4b7", func := "footlocker/footlockerlaw07.LittleCuts", spec := "littleCuts", apart := false, narrowed := true }
def LittleCutsUptoSaid : Prop := littleCutsUptoRow.holds Try.pinned (OpenSpec.upto littleCutsSpec)

/-- 'footlockerlaw08.BitsPlay', WHERE WHAT IT READS IS OF BULK AT MOST 1048576: true; the input reads as it did. -/
def bitsPlayUptoRow : OpenClaim := { program := "ytekpmpgolpghiaa", sum := "3db8b003c928389ac25192c02a4145e318843140d176c8cc942635de77d2d4b7", func := "footlocker/footlockerlaw08.BitsPlay", spec := "bitsPlay", apart := false, narrowed := true }
def BitsPlayUptoSaid : Prop := bitsPlayUptoRow.holds Try.pinned (OpenSpec.upto bitsPlaySpec)

/-- 'footlockerlaw08.BitsReads', WHERE WHAT IT READS IS OF BULK AT MOST 1048576: true; the input reads as it did. -/
def bitsReadsUptoRow : OpenClaim := { program := "ytekpmpgolpghiaa", sum := "3db8b003c928389ac25192c02a4145e318843140d176c8cc942635de77d2d4b7", func := "footlocker/footlockerlaw08.BitsReads", spec := "bitsReads", apart := false, narrowed := true }
def BitsReadsUptoSaid : Prop := bitsReadsUptoRow.holds Try.pinned (OpenSpec.upto bitsReadsSpec)

/-- 'footlockerlaw08.BitsBack', WHERE WHAT IT READS IS OF BULK AT MOST 1048576: true; the input reads as it did. -/
def bitsBackUptoRow : OpenClaim := { program := "ytekpmpgolpghiaa", sum := "3db8b003c928389ac25192c02a4145e318843140d176c8cc942635de77d2d4b7", func := "footlocker/footlockerlaw08.BitsBack", spec := "bitsBack", apart := false, narrowed := true }
def BitsBackUptoSaid : Prop := bitsBackUptoRow.holds Try.pinned (OpenSpec.upto bitsBackSpec)

/-- 'footlockerlaw08.BitsBytes', WHERE WHAT IT READS IS OF BULK AT MOST 1048576: true; the input reads as it did. -/
def bitsBytesUptoRow : OpenClaim := { program := "ytekpmpgolpghiaa", sum := "3db8b003c928389ac25192c02a4145e318843140d176c8cc942635de77d2d4b7", func := "footlocker/footlockerlaw08.BitsBytes", spec := "bitsBytes", apart := false, narrowed := true }
def BitsBytesUptoSaid : Prop := bitsBytesUptoRow.holds Try.pinned (OpenSpec.upto bitsBytesSpec)

end Rows
end Go.Proofs.Ytekpmpgolpghiaa
