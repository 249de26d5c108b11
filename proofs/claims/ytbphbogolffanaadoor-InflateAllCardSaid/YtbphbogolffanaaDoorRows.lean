/-
  NARROWER THAN 'FOR EVERY INPUT', by the rows' own cells (each row's printed sentence says how): InflateAll: laid · InflateTakes: laid · InflateStored: laid.
  DERIVED. THE GIVEN ROWS OF THIS SEAT. 3 by the template 'for every input the law returns true; each argument reads behind the call as it read before'; 0 by the template 'total and deterministic' (their statements: YtbphbogolffanaaDoorTotals.lean).
  GIVEN WITH THE SEED: the statements are not yours to turn. If you find one false, say at which input.
  Laid BY PROGRAM, IN A SANDBOX (cutbox-rows.mjs): the forced cells as the released guide's own fill.sh prints them over the translation d5e7f8522223b918… (all of the seat's roots in one cut). By AI agents, Wed Nov 11 2026. No macro, syntax, notation, axiom, sorry.
-/
import Derived.Test.YtbphbogolffanaaDoorChecked
import GoSem.Claim
import GoSem.ClaimJoined
import GoSem.ClaimMapViews
import Derived.JoinedTies
import Derived.KernelRfl
namespace Go.Proofs.YtbphbogolffanaaDoor
/- THE CELL 'sum', in the pinned program and in every row, IS THE sha256 OF THE DUMP (.gsa) THAT YtbphbogolffanaaDoorProg.lean LOADS. Nothing in Lean hashes anything: it is a label: what it is worth is what the hold of that sum in a sandbox is worth. -/
noncomputable def Tryd.pinned : Pinned := { name := "ytbphbogolffanaadoor", sum := "d5e7f8522223b9186bc4b17569a937e59a4decab51d445c5dc79189e68ea08d0", checked := Tryd.checked }
namespace Rows
def none {H : Type} : Left H := { results := [], args := [] }

/- WHAT THE LISTED PACKAGE-LEVEL VARIABLES READ AS WHEN THE CALL BEGINS. Each datum BY PROGRAM (the guide's laid-datum.mjs) off the statement by which the dump's own 'gosem.cut.vars' lays the variable. In a bare row this is a premise. The card (YtbphbogolffanaaDoorCards.lean) ties it to the program's text. -/
def laid_footlocker_symbol_lengthBases {H : Type} : DataW H := .agg [.lit (.int .i64 3), .lit (.int .i64 4), .lit (.int .i64 5), .lit (.int .i64 6), .lit (.int .i64 7), .lit (.int .i64 8), .lit (.int .i64 9), .lit (.int .i64 10), .lit (.int .i64 11), .lit (.int .i64 13), .lit (.int .i64 15), .lit (.int .i64 17), .lit (.int .i64 19), .lit (.int .i64 23), .lit (.int .i64 27), .lit (.int .i64 31), .lit (.int .i64 35), .lit (.int .i64 43), .lit (.int .i64 51), .lit (.int .i64 59), .lit (.int .i64 67), .lit (.int .i64 83), .lit (.int .i64 99), .lit (.int .i64 115), .lit (.int .i64 131), .lit (.int .i64 163), .lit (.int .i64 195), .lit (.int .i64 227), .lit (.int .i64 258)]
def laid_footlocker_symbol_distBases {H : Type} : DataW H := .agg [.lit (.int .i64 1), .lit (.int .i64 2), .lit (.int .i64 3), .lit (.int .i64 4), .lit (.int .i64 5), .lit (.int .i64 7), .lit (.int .i64 9), .lit (.int .i64 13), .lit (.int .i64 17), .lit (.int .i64 25), .lit (.int .i64 33), .lit (.int .i64 49), .lit (.int .i64 65), .lit (.int .i64 97), .lit (.int .i64 129), .lit (.int .i64 193), .lit (.int .i64 257), .lit (.int .i64 385), .lit (.int .i64 513), .lit (.int .i64 769), .lit (.int .i64 1025), .lit (.int .i64 1537), .lit (.int .i64 2049), .lit (.int .i64 3073), .lit (.int .i64 4097), .lit (.int .i64 6145), .lit (.int .i64 8193), .lit (.int .i64 12289), .lit (.int .i64 16385), .lit (.int .i64 24577)]

/-- 'footlockerlaw12.InflateAll': WHATEVER THE INPUT: true; the input reads as it did. -/
def inflateAllSpec : ChangeSpec := { name := "inflateAll", fn := fun _ => fun
  | [d1, d2] => { results := [.lit (.bool true)], args := [d1, d2] }
  | _ => none }
def inflateAllRow : OpenClaim := { program := "ytbphbogolffanaadoor", sum := "d5e7f8522223b9186bc4b17569a937e59a4decab51d445c5dc79189e68ea08d0", func := "footlocker/footlockerlaw12.InflateAll", spec := "inflateAll", unfollowed := true, recurses := true, named := ["footlocker/symbol.lengthBases", "footlocker/symbol.distBases"], apart := false, laid := [("footlocker/symbol.lengthBases", laid_footlocker_symbol_lengthBases), ("footlocker/symbol.distBases", laid_footlocker_symbol_distBases)] }
def InflateAllSaid : Prop := inflateAllRow.holds Tryd.pinned (OpenSpec.ofChange inflateAllSpec)

/-- ITS FALSE NEIGHBOUR: 'it returns false'. Refute it at one input. -/
def inflateAllWrong : ChangeSpec := { name := "inflateAll", fn := fun _ => fun
  | [d1, d2] => { results := [.lit (.bool false)], args := [d1, d2] }
  | _ => none }
def InflateAllWrongFalsely : Prop := inflateAllRow.holds Tryd.pinned (OpenSpec.ofChange inflateAllWrong)

/-- 'footlockerlaw12.InflateTakes': WHATEVER THE INPUT: true; the input reads as it did. -/
def inflateTakesSpec : ChangeSpec := { name := "inflateTakes", fn := fun _ => fun
  | [d1, d2, d3] => { results := [.lit (.bool true)], args := [d1, d2, d3] }
  | _ => none }
def inflateTakesRow : OpenClaim := { program := "ytbphbogolffanaadoor", sum := "d5e7f8522223b9186bc4b17569a937e59a4decab51d445c5dc79189e68ea08d0", func := "footlocker/footlockerlaw12.InflateTakes", spec := "inflateTakes", unfollowed := true, recurses := true, named := ["footlocker/symbol.lengthBases", "footlocker/symbol.distBases"], apart := false, laid := [("footlocker/symbol.lengthBases", laid_footlocker_symbol_lengthBases), ("footlocker/symbol.distBases", laid_footlocker_symbol_distBases)] }
def InflateTakesSaid : Prop := inflateTakesRow.holds Tryd.pinned (OpenSpec.ofChange inflateTakesSpec)

/-- ITS FALSE NEIGHBOUR: 'it returns false'. Refute it at one input. -/
def inflateTakesWrong : ChangeSpec := { name := "inflateTakes", fn := fun _ => fun
  | [d1, d2, d3] => { results := [.lit (.bool false)], args := [d1, d2, d3] }
  | _ => none }
def InflateTakesWrongFalsely : Prop := inflateTakesRow.holds Tryd.pinned (OpenSpec.ofChange inflateTakesWrong)

/-- 'footlockerlaw12.InflateStored': WHATEVER THE INPUT: true; the input reads as it did. -/
def inflateStoredSpec : ChangeSpec := { name := "inflateStored", fn := fun _ => fun
  | [d1, d2, d3] => { results := [.lit (.bool true)], args := [d1, d2, d3] }
  | _ => none }
def inflateStoredRow : OpenClaim := { program := "ytbphbogolffanaadoor", sum := "d5e7f8522223b9186bc4b17569a937e59a4decab51d445c5dc79189e68ea08d0", func := "footlocker/footlockerlaw12.InflateStored", spec := "inflateStored", unfollowed := true, recurses := true, named := ["footlocker/symbol.lengthBases", "footlocker/symbol.distBases"], apart := false, laid := [("footlocker/symbol.lengthBases", laid_footlocker_symbol_lengthBases), ("footlocker/symbol.distBases", laid_footlocker_symbol_distBases)] }
def InflateStoredSaid : Prop := inflateStoredRow.holds Tryd.pinned (OpenSpec.ofChange inflateStoredSpec)

/-- ITS FALSE NEIGHBOUR: 'it returns false'. Refute it at one input. -/
def inflateStoredWrong : ChangeSpec := { name := "inflateStored", fn := fun _ => fun
  | [d1, d2, d3] => { results := [.lit (.bool false)], args := [d1, d2, d3] }
  | _ => none }
def InflateStoredWrongFalsely : Prop := inflateStoredRow.holds Tryd.pinned (OpenSpec.ofChange inflateStoredWrong)

/- THE SECOND FORM. 'bulk': how many values and letters a reading holds, each counted each time it is reached (what is shared counts as often as it is met; a slice's spare places count too). A statement '..UptoSaid' is the law's where the arguments, and the package variables that the reading takes, are together of bulk at most 1048576: NARROWER than '..Said'. Prove '..Said' where nothing that the law and all that it calls make is longer than what came in: it says more and counts as full. Else prove '..UptoSaid'. A law counts once. -/
mutual
def uptoBulk {H : Type} : DataW H → Nat
  | .lit (.string bytes) => bytes.length + 1
  | .lit _ => 1
  | .nil => 1
  | .ptr d => uptoBulk d + 1
  | .slice elems spare => uptoBulkAll elems + uptoBulkAll spare + 1
  | .agg parts => uptoBulkAll parts + 1
  | .iface _ d => uptoBulk d + 1
  | .map entries => uptoBulkEntries entries + 1
  | .held _ => 1
def uptoBulkAll {H : Type} : List (DataW H) → Nat
  | [] => 0
  | d :: r => uptoBulk d + uptoBulkAll r
def uptoBulkEntries {H : Type} : List (Lit × DataW H) → Nat
  | [] => 0
  | x :: r => uptoBulkEntry x + uptoBulkEntries r
def uptoBulkEntry {H : Type} : Lit × DataW H → Nat
  | (.string bytes, d) => bytes.length + uptoBulk d + 1
  | (_, d) => uptoBulk d + 1
 end
def uptoSmall : (H : Type) → List (DataW H) → Bool := fun _ ds => decide (uptoBulkAll ds ≤ 1048576)
def OpenSpec.upto (s : _root_.Go.ChangeSpec) : _root_.Go.OpenSpec := { _root_.Go.OpenSpec.ofChange s with cond := some uptoSmall }

/-- 'footlockerlaw12.InflateAll', WHERE WHAT IT READS IS OF BULK AT MOST 1048576: true; the input reads as it did. -/
def inflateAllUptoRow : OpenClaim := { program := "ytbphbogolffanaadoor", sum := "d5e7f8522223b9186bc4b17569a937e59a4decab51d445c5dc79189e68ea08d0", func := "footlocker/footlockerlaw12.InflateAll", spec := "inflateAll", unfollowed := true, recurses := true, named := ["footlocker/symbol.lengthBases", "footlocker/symbol.distBases"], apart := false, laid := [("footlocker/symbol.lengthBases", laid_footlocker_symbol_lengthBases), ("footlocker/symbol.distBases", laid_footlocker_symbol_distBases)], narrowed := true }
def InflateAllUptoSaid : Prop := inflateAllUptoRow.holds Tryd.pinned (OpenSpec.upto inflateAllSpec)

/-- 'footlockerlaw12.InflateTakes', WHERE WHAT IT READS IS OF BULK AT MOST 1048576: true; the input reads as it did. -/
def inflateTakesUptoRow : OpenClaim := { program := "ytbphbogolffanaadoor", sum := "d5e7f8522223b9186bc4b17569a937e59a4decab51d445c5dc79189e68ea08d0", func := "footlocker/footlockerlaw12.InflateTakes", spec := "inflateTakes", unfollowed := true, recurses := true, named := ["footlocker/symbol.lengthBases", "footlocker/symbol.distBases"], apart := false, laid := [("footlocker/symbol.lengthBases", laid_footlocker_symbol_lengthBases), ("footlocker/symbol.distBases", laid_footlocker_symbol_distBases)], narrowed := true }
def InflateTakesUptoSaid : Prop := inflateTakesUptoRow.holds Tryd.pinned (OpenSpec.upto inflateTakesSpec)

/-- 'footlockerlaw12.InflateStored', WHERE WHAT IT READS IS OF BULK AT MOST 1048576: true; the input reads as it did. -/
def inflateStoredUptoRow : OpenClaim := { program := "ytbphbogolffanaadoor", sum := "d5e7f8522223b9186bc4b17569a937e59a4decab51d445c5dc79189e68ea08d0", func := "footlocker/footlockerlaw12.InflateStored", spec := "inflateStored", unfollowed := true, recurses := true, named := ["footlocker/symbol.lengthBases", "footlocker/symbol.distBases"], apart := false, laid := [("footlocker/symbol.lengthBases", laid_footlocker_symbol_lengthBases), ("footlocker/symbol.distBases", laid_footlocker_symbol_distBases)], narrowed := true }
def InflateStoredUptoSaid : Prop := inflateStoredUptoRow.holds Tryd.pinned (OpenSpec.upto inflateStoredSpec)

end Rows
end Go.Proofs.YtbphbogolffanaaDoor
