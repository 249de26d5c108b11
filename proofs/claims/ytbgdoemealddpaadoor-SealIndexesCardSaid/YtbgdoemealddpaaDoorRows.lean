/-
  NARROWER THAN 'FOR EVERY INPUT', by the rows' own cells (each row's printed sentence says how): SealWrites: laid · SealParses: laid · SealBack: laid · SealIndexes: laid.
  DERIVED. THE GIVEN ROWS OF THIS SEAT. 4 by the template 'for every input the law returns true; each argument reads behind the call as it read before'; 0 by the template 'total and deterministic' (their statements: YtbgdoemealddpaaDoorTotals.lean).
  GIVEN WITH THE SEED: the statements are not yours to turn. If you find one false, say at which input.
  Laid BY PROGRAM, IN A SANDBOX (cutbox-rows.mjs): the forced cells as the released guide's own fill.sh prints them over the translation 34eec45c2553c4a5… (all of the seat's roots in one cut). By AI agents, Wed Nov 11 2026. No macro, syntax, notation, axiom, sorry.
-/
import Derived.Test.YtbgdoemealddpaaDoorChecked
import GoSem.Claim
import GoSem.ClaimJoined
import GoSem.ClaimMapViews
import Derived.JoinedTies
import Derived.KernelRfl
namespace Go.Proofs.YtbgdoemealddpaaDoor
/- THE CELL 'sum', in the pinned program and in every row, IS THE sha256 OF THE DUMP (.gsa) THAT YtbgdoemealddpaaDoorProg.lean LOADS. Nothing in Lean hashes anything: it is a label: what it is worth is what the hold of that sum in a sandbox is worth. -/
noncomputable def Tryd.pinned : Pinned := { name := "ytbgdoemealddpaadoor", sum := "34eec45c2553c4a5a74785433f920ea5539b8233e0d2eb44e409792cf4d300f7", checked := Tryd.checked }
namespace Rows
def none {H : Type} : Left H := { results := [], args := [] }

/- WHAT THE LISTED PACKAGE-LEVEL VARIABLES READ AS WHEN THE CALL BEGINS. Each datum BY PROGRAM (the guide's laid-datum.mjs) off the statement by which the dump's own 'gosem.cut.vars' lays the variable. In a bare row this is a premise. The card (YtbgdoemealddpaaDoorCards.lean) ties it to the program's text. -/
def laid_footlocker_crc_fourBits {H : Type} : DataW H := .agg [.lit (.int .u32 0), .lit (.int .u32 498536548), .lit (.int .u32 997073096), .lit (.int .u32 651767980), .lit (.int .u32 1994146192), .lit (.int .u32 1802195444), .lit (.int .u32 1303535960), .lit (.int .u32 1342533948), .lit (.int .u32 3988292384), .lit (.int .u32 4027552580), .lit (.int .u32 3604390888), .lit (.int .u32 3412177804), .lit (.int .u32 2607071920), .lit (.int .u32 2262029012), .lit (.int .u32 2685067896), .lit (.int .u32 3183342108)]

/-- 'footlockerlaw24.SealWrites': WHATEVER THE INPUT: true; the input reads as it did. -/
def sealWritesSpec : ChangeSpec := { name := "sealWrites", fn := fun _ => fun
  | [d1, d2, d3] => { results := [.lit (.bool true)], args := [d1, d2, d3] }
  | _ => none }
def sealWritesRow : OpenClaim := { program := "ytbgdoemealddpaadoor", sum := "34eec45c2553c4a5a74785433f920ea5539b8233e0d2eb44e409792cf4d300f7", func := "footlocker/footlockerlaw24.SealWrites", spec := "sealWrites", unfollowed := true, recurses := true, named := ["footlocker/crc.fourBits"], apart := false, laid := [("footlocker/crc.fourBits", laid_footlocker_crc_fourBits)] }
def SealWritesSaid : Prop := sealWritesRow.holds Tryd.pinned (OpenSpec.ofChange sealWritesSpec)

/-- ITS FALSE NEIGHBOUR: 'it returns false'. Refute it at one input. -/
def sealWritesWrong : ChangeSpec := { name := "sealWrites", fn := fun _ => fun
  | [d1, d2, d3] => { results := [.lit (.bool false)], args := [d1, d2, d3] }
  | _ => none }
def SealWritesWrongFalsely : Prop := sealWritesRow.holds Tryd.pinned (OpenSpec.ofChange sealWritesWrong)

/-- 'footlockerlaw24.SealParses': WHATEVER THE INPUT: true; the input reads as it did. -/
def sealParsesSpec : ChangeSpec := { name := "sealParses", fn := fun _ => fun
  | [d] => { results := [.lit (.bool true)], args := [d] }
  | _ => none }
def sealParsesRow : OpenClaim := { program := "ytbgdoemealddpaadoor", sum := "34eec45c2553c4a5a74785433f920ea5539b8233e0d2eb44e409792cf4d300f7", func := "footlocker/footlockerlaw24.SealParses", spec := "sealParses", unfollowed := true, recurses := true, named := ["footlocker/crc.fourBits"], apart := false, laid := [("footlocker/crc.fourBits", laid_footlocker_crc_fourBits)] }
def SealParsesSaid : Prop := sealParsesRow.holds Tryd.pinned (OpenSpec.ofChange sealParsesSpec)

/-- ITS FALSE NEIGHBOUR: 'it returns false'. Refute it at one input. -/
def sealParsesWrong : ChangeSpec := { name := "sealParses", fn := fun _ => fun
  | [d] => { results := [.lit (.bool false)], args := [d] }
  | _ => none }
def SealParsesWrongFalsely : Prop := sealParsesRow.holds Tryd.pinned (OpenSpec.ofChange sealParsesWrong)

/-- 'footlockerlaw24.SealBack': WHATEVER THE INPUT: true; the input reads as it did. -/
def sealBackSpec : ChangeSpec := { name := "sealBack", fn := fun _ => fun
  | [d1, d2, d3, d4, d5] => { results := [.lit (.bool true)], args := [d1, d2, d3, d4, d5] }
  | _ => none }
def sealBackRow : OpenClaim := { program := "ytbgdoemealddpaadoor", sum := "34eec45c2553c4a5a74785433f920ea5539b8233e0d2eb44e409792cf4d300f7", func := "footlocker/footlockerlaw24.SealBack", spec := "sealBack", unfollowed := true, recurses := true, named := ["footlocker/crc.fourBits"], apart := false, laid := [("footlocker/crc.fourBits", laid_footlocker_crc_fourBits)] }
def SealBackSaid : Prop := sealBackRow.holds Tryd.pinned (OpenSpec.ofChange sealBackSpec)

/-- ITS FALSE NEIGHBOUR: 'it returns false'. Refute it at one input. -/
def sealBackWrong : ChangeSpec := { name := "sealBack", fn := fun _ => fun
  | [d1, d2, d3, d4, d5] => { results := [.lit (.bool false)], args := [d1, d2, d3, d4, d5] }
  | _ => none }
def SealBackWrongFalsely : Prop := sealBackRow.holds Tryd.pinned (OpenSpec.ofChange sealBackWrong)

/-- 'footlockerlaw24.SealIndexes': WHATEVER THE INPUT: true; the input reads as it did. -/
def sealIndexesSpec : ChangeSpec := { name := "sealIndexes", fn := fun _ => fun
  | [d1, d2, d3, d4] => { results := [.lit (.bool true)], args := [d1, d2, d3, d4] }
  | _ => none }
def sealIndexesRow : OpenClaim := { program := "ytbgdoemealddpaadoor", sum := "34eec45c2553c4a5a74785433f920ea5539b8233e0d2eb44e409792cf4d300f7", func := "footlocker/footlockerlaw24.SealIndexes", spec := "sealIndexes", unfollowed := true, recurses := true, named := ["footlocker/crc.fourBits"], apart := false, laid := [("footlocker/crc.fourBits", laid_footlocker_crc_fourBits)] }
def SealIndexesSaid : Prop := sealIndexesRow.holds Tryd.pinned (OpenSpec.ofChange sealIndexesSpec)

/-- ITS FALSE NEIGHBOUR: 'it returns false'. Refute it at one input. -/
def sealIndexesWrong : ChangeSpec := { name := "sealIndexes", fn := fun _ => fun
  | [d1, d2, d3, d4] => { results := [.lit (.bool false)], args := [d1, d2, d3, d4] }
  | _ => none }
def SealIndexesWrongFalsely : Prop := sealIndexesRow.holds Tryd.pinned (OpenSpec.ofChange sealIndexesWrong)

/- THE SECOND FORM. 'bulk': how many values and letters a reading holds, each counted each time it is reached (what is shared counts as often as it is met; a slice's spare places count too). A statement '..UptoSaid' is the law's where the arguments, and the package variables that the reading takes, are together of bulk at most 1048576: NARROWER than '..Said'. Prove '..Said' where nothing that the law and all that it calls make is longer than what came in: it says more and counts as full. Else prove '..UptoSaid'. A law counts once. -/
mutual
def uptoBulk {H : Type} : DataW H → Nat
  | .lit (.string bytes) => bytes.length + 1
  | .lit _ => 1
  | .nil => 1
  | .ptr d => uptoBulk d + 1
  | .slice elems spare => uptoBulkAll elems + uptoBulkAll spare + 1
  | .agg parts => uptoBulkAll parts + 1
  | .iface _ d => uptoBulk d + 1
  | .map entries => uptoBulkEntries entries + 1
  | .held _ => 1
def uptoBulkAll {H : Type} : List (DataW H) → Nat
  | [] => 0
  | d :: r => uptoBulk d + uptoBulkAll r
def uptoBulkEntries {H : Type} : List (Lit × DataW H) → Nat
  | [] => 0
  | x :: r => uptoBulkEntry x + uptoBulkEntries r
def uptoBulkEntry {H : Type} : Lit × DataW H → Nat
  | (.string bytes, d) => bytes.length + uptoBulk d + 1
  | (_, d) => uptoBulk d + 1
 end
def uptoSmall : (H : Type) → List (DataW H) → Bool := fun _ ds => decide (uptoBulkAll ds ≤ 1048576)
def OpenSpec.upto (s : _root_.Go.ChangeSpec) : _root_.Go.OpenSpec := { _root_.Go.OpenSpec.ofChange s with cond := some uptoSmall }

/-- 'footlockerlaw24.SealWrites', WHERE WHAT IT READS IS OF BULK AT MOST 1048576: true; the input reads as it did. -/
def sealWritesUptoRow : OpenClaim := { program := "ytbgdoemealddpaadoor", sum := "34eec45c2553c4a5a74785433f920ea5539b8233e0d2eb44e409792cf4d300f7", func := "footlocker/footlockerlaw24.SealWrites", spec := "sealWrites", unfollowed := true, recurses := true, named := ["footlocker/crc.fourBits"], apart := false, laid := [("footlocker/crc.fourBits", laid_footlocker_crc_fourBits)], narrowed := true }
def SealWritesUptoSaid : Prop := sealWritesUptoRow.holds Tryd.pinned (OpenSpec.upto sealWritesSpec)

/-- 'footlockerlaw24.SealParses', WHERE WHAT IT READS IS OF BULK AT MOST 1048576: true; the input reads as it did. -/
def sealParsesUptoRow : OpenClaim := { program := "ytbgdoemealddpaadoor", sum := "34eec45c2553c4a5a74785433f920ea5539b8233e0d2eb44e409792cf4d300f7", func := "footlocker/footlockerlaw24.SealParses", spec := "sealParses", unfollowed := true, recurses := true, named := ["footlocker/crc.fourBits"], apart := false, laid := [("footlocker/crc.fourBits", laid_footlocker_crc_fourBits)], narrowed := true }
def SealParsesUptoSaid : Prop := sealParsesUptoRow.holds Tryd.pinned (OpenSpec.upto sealParsesSpec)

/-- 'footlockerlaw24.SealBack', WHERE WHAT IT READS IS OF BULK AT MOST 1048576: true; the input reads as it did. -/
def sealBackUptoRow : OpenClaim := { program := "ytbgdoemealddpaadoor", sum := "34eec45c2553c4a5a74785433f920ea5539b8233e0d2eb44e409792cf4d300f7", func := "footlocker/footlockerlaw24.SealBack", spec := "sealBack", unfollowed := true, recurses := true, named := ["footlocker/crc.fourBits"], apart := false, laid := [("footlocker/crc.fourBits", laid_footlocker_crc_fourBits)], narrowed := true }
def SealBackUptoSaid : Prop := sealBackUptoRow.holds Tryd.pinned (OpenSpec.upto sealBackSpec)

/-- 'footlockerlaw24.SealIndexes', WHERE WHAT IT READS IS OF BULK AT MOST 1048576: true; the input reads as it did. -/
def sealIndexesUptoRow : OpenClaim := { program := "ytbgdoemealddpaadoor", sum := "34eec45c2553c4a5a74785433f920ea5539b8233e0d2eb44e409792cf4d300f7", func := "footlocker/footlockerlaw24.SealIndexes", spec := "sealIndexes", unfollowed := true, recurses := true, named := ["footlocker/crc.fourBits"], apart := false, laid := [("footlocker/crc.fourBits", laid_footlocker_crc_fourBits)], narrowed := true }
def SealIndexesUptoSaid : Prop := sealIndexesUptoRow.holds Tryd.pinned (OpenSpec.upto sealIndexesSpec)

end Rows
end Go.Proofs.YtbgdoemealddpaaDoor
