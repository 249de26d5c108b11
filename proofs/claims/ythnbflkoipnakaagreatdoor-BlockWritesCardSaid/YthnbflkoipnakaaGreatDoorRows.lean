/-
  NARROWER THAN 'FOR EVERY INPUT', by the rows' own cells (each row's printed sentence says how): BlockWrites: laid · BlockUnpacks: laid · BlockRows: laid · BlockSizes: laid · BlockCounts: laid.
  DERIVED. THE GIVEN ROWS OF THIS SEAT. 5 by the template 'for every input the law returns true; each argument reads behind the call as it read before'; 0 by the template 'total and deterministic' (their statements: YthnbflkoipnakaaGreatDoorTotals.lean).
  GIVEN WITH THE SEED: the statements are not yours to turn. If you find one false, say at which input.
  Laid BY PROGRAM, IN A SANDBOX (cutbox-rows.mjs): the forced cells as the released guide's own fill.sh prints them over the translation a78697627985a0f7… (all of the seat's roots in one cut). By AI agents, Wed Nov 11 2026. No macro, syntax, notation, axiom, sorry.
-/
import Derived.Test.YthnbflkoipnakaaGreatDoorChecked
import GoSem.Claim
import GoSem.ClaimJoined
import GoSem.ClaimMapViews
import Derived.JoinedTies
import Derived.KernelRfl
namespace Go.Proofs.YthnbflkoipnakaaGreatDoor
/- THE CELL 'sum', in the pinned program and in every row, IS THE sha256 OF THE DUMP (.gsa) THAT YthnbflkoipnakaaGreatDoorProg.lean LOADS. Nothing in Lean hashes anything: it is a label: what it is worth is what the hold of that sum in a sandbox is worth. -/
noncomputable def Tryz.pinned : Pinned := { name := "ythnbflkoipnakaagreatdoor", sum := "a78697627985a0f7c76d94d7ceab96d3d861a7d9b9e5c2a803d959a899565d5f", checked := Tryz.checked }
namespace Rows
def none {H : Type} : Left H := { results := [], args := [] }

/- WHAT THE LISTED PACKAGE-LEVEL VARIABLES READ AS WHEN THE CALL BEGINS. Each datum BY PROGRAM (the guide's laid-datum.mjs) off the statement by which the dump's own 'gosem.cut.vars' lays the variable. In a bare row this is a premise. The card (YthnbflkoipnakaaGreatDoorCards.lean) ties it to the program's text. -/
def laid_footlocker_symbol_lengthBases {H : Type} : DataW H := .agg [.lit (.int .i64 3), .lit (.int .i64 4), .lit (.int .i64 5), .lit (.int .i64 6), .lit (.int .i64 7), .lit (.int .i64 8), .lit (.int .i64 9), .lit (.int .i64 10), .lit (.int .i64 11), .lit (.int .i64 13), .lit (.int .i64 15), .lit (.int .i64 17), .lit (.int .i64 19), .lit (.int .i64 23), .lit (.int .i64 27), .lit (.int .i64 31), .lit (.int .i64 35), .lit (.int .i64 43), .lit (.int .i64 51), .lit (.int .i64 59), .lit (.int .i64 67), .lit (.int .i64 83), .lit (.int .i64 99), .lit (.int .i64 115), .lit (.int .i64 131), .lit (.int .i64 163), .lit (.int .i64 195), .lit (.int .i64 227), .lit (.int .i64 258)]
def laid_footlocker_symbol_distBases {H : Type} : DataW H := .agg [.lit (.int .i64 1), .lit (.int .i64 2), .lit (.int .i64 3), .lit (.int .i64 4), .lit (.int .i64 5), .lit (.int .i64 7), .lit (.int .i64 9), .lit (.int .i64 13), .lit (.int .i64 17), .lit (.int .i64 25), .lit (.int .i64 33), .lit (.int .i64 49), .lit (.int .i64 65), .lit (.int .i64 97), .lit (.int .i64 129), .lit (.int .i64 193), .lit (.int .i64 257), .lit (.int .i64 385), .lit (.int .i64 513), .lit (.int .i64 769), .lit (.int .i64 1025), .lit (.int .i64 1537), .lit (.int .i64 2049), .lit (.int .i64 3073), .lit (.int .i64 4097), .lit (.int .i64 6145), .lit (.int .i64 8193), .lit (.int .i64 12289), .lit (.int .i64 16385), .lit (.int .i64 24577)]

/-- 'footlockerlaw14.BlockWrites': WHATEVER THE INPUT: true; the input reads as it did. -/
def blockWritesSpec : ChangeSpec := { name := "blockWrites", fn := fun _ => fun
  | [d1, d2, d3, d4] => { results := [.lit (.bool true)], args := [d1, d2, d3, d4] }
  | _ => none }
def blockWritesRow : OpenClaim := { program := "ythnbflkoipnakaagreatdoor", sum := "a78697627985a0f7c76d94d7ceab96d3d861a7d9b9e5c2a803d959a899565d5f", func := "footlocker/footlockerlaw14.BlockWrites", spec := "blockWrites", unfollowed := true, recurses := true, named := ["footlocker/symbol.lengthBases", "footlocker/symbol.distBases"], apart := false, laid := [("footlocker/symbol.lengthBases", laid_footlocker_symbol_lengthBases), ("footlocker/symbol.distBases", laid_footlocker_symbol_distBases)] }
def BlockWritesSaid : Prop := blockWritesRow.holds Tryz.pinned (OpenSpec.ofChange blockWritesSpec)

/-- ITS FALSE NEIGHBOUR: 'it returns false'. Refute it at one input. -/
def blockWritesWrong : ChangeSpec := { name := "blockWrites", fn := fun _ => fun
  | [d1, d2, d3, d4] => { results := [.lit (.bool false)], args := [d1, d2, d3, d4] }
  | _ => none }
def BlockWritesWrongFalsely : Prop := blockWritesRow.holds Tryz.pinned (OpenSpec.ofChange blockWritesWrong)

/-- 'footlockerlaw14.BlockUnpacks': WHATEVER THE INPUT: true; the input reads as it did. -/
def blockUnpacksSpec : ChangeSpec := { name := "blockUnpacks", fn := fun _ => fun
  | [d] => { results := [.lit (.bool true)], args := [d] }
  | _ => none }
def blockUnpacksRow : OpenClaim := { program := "ythnbflkoipnakaagreatdoor", sum := "a78697627985a0f7c76d94d7ceab96d3d861a7d9b9e5c2a803d959a899565d5f", func := "footlocker/footlockerlaw14.BlockUnpacks", spec := "blockUnpacks", unfollowed := true, recurses := true, named := ["footlocker/symbol.lengthBases", "footlocker/symbol.distBases"], apart := false, laid := [("footlocker/symbol.lengthBases", laid_footlocker_symbol_lengthBases), ("footlocker/symbol.distBases", laid_footlocker_symbol_distBases)] }
def BlockUnpacksSaid : Prop := blockUnpacksRow.holds Tryz.pinned (OpenSpec.ofChange blockUnpacksSpec)

/-- ITS FALSE NEIGHBOUR: 'it returns false'. Refute it at one input. -/
def blockUnpacksWrong : ChangeSpec := { name := "blockUnpacks", fn := fun _ => fun
  | [d] => { results := [.lit (.bool false)], args := [d] }
  | _ => none }
def BlockUnpacksWrongFalsely : Prop := blockUnpacksRow.holds Tryz.pinned (OpenSpec.ofChange blockUnpacksWrong)

/-- 'footlockerlaw14.BlockRows': WHATEVER THE INPUT: true; the input reads as it did. -/
def blockRowsSpec : ChangeSpec := { name := "blockRows", fn := fun _ => fun
  | [d1, d2] => { results := [.lit (.bool true)], args := [d1, d2] }
  | _ => none }
def blockRowsRow : OpenClaim := { program := "ythnbflkoipnakaagreatdoor", sum := "a78697627985a0f7c76d94d7ceab96d3d861a7d9b9e5c2a803d959a899565d5f", func := "footlocker/footlockerlaw14.BlockRows", spec := "blockRows", unfollowed := true, recurses := true, named := ["footlocker/symbol.lengthBases", "footlocker/symbol.distBases"], apart := false, laid := [("footlocker/symbol.lengthBases", laid_footlocker_symbol_lengthBases), ("footlocker/symbol.distBases", laid_footlocker_symbol_distBases)] }
def BlockRowsSaid : Prop := blockRowsRow.holds Tryz.pinned (OpenSpec.ofChange blockRowsSpec)

/-- ITS FALSE NEIGHBOUR: 'it returns false'. Refute it at one input. -/
def blockRowsWrong : ChangeSpec := { name := "blockRows", fn := fun _ => fun
  | [d1, d2] => { results := [.lit (.bool false)], args := [d1, d2] }
  | _ => none }
def BlockRowsWrongFalsely : Prop := blockRowsRow.holds Tryz.pinned (OpenSpec.ofChange blockRowsWrong)

/-- 'footlockerlaw14.BlockSizes': WHATEVER THE INPUT: true; the input reads as it did. -/
def blockSizesSpec : ChangeSpec := { name := "blockSizes", fn := fun _ => fun
  | [d1, d2] => { results := [.lit (.bool true)], args := [d1, d2] }
  | _ => none }
def blockSizesRow : OpenClaim := { program := "ythnbflkoipnakaagreatdoor", sum := "a78697627985a0f7c76d94d7ceab96d3d861a7d9b9e5c2a803d959a899565d5f", func := "footlocker/footlockerlaw14.BlockSizes", spec := "blockSizes", unfollowed := true, recurses := true, named := ["footlocker/symbol.lengthBases", "footlocker/symbol.distBases"], apart := false, laid := [("footlocker/symbol.lengthBases", laid_footlocker_symbol_lengthBases), ("footlocker/symbol.distBases", laid_footlocker_symbol_distBases)] }
def BlockSizesSaid : Prop := blockSizesRow.holds Tryz.pinned (OpenSpec.ofChange blockSizesSpec)

/-- ITS FALSE NEIGHBOUR: 'it returns false'. Refute it at one input. -/
def blockSizesWrong : ChangeSpec := { name := "blockSizes", fn := fun _ => fun
  | [d1, d2] => { results := [.lit (.bool false)], args := [d1, d2] }
  | _ => none }
def BlockSizesWrongFalsely : Prop := blockSizesRow.holds Tryz.pinned (OpenSpec.ofChange blockSizesWrong)

/-- 'footlockerlaw14.BlockCounts': WHATEVER THE INPUT: true; the input reads as it did. -/
def blockCountsSpec : ChangeSpec := { name := "blockCounts", fn := fun _ => fun
  | [d1, d2] => { results := [.lit (.bool true)], args := [d1, d2] }
  | _ => none }
def blockCountsRow : OpenClaim := { program := "ythnbflkoipnakaagreatdoor", sum := "a78697627985a0f7c76d94d7ceab96d3d861a7d9b9e5c2a803d959a899565d5f", func := "footlocker/footlockerlaw14.BlockCounts", spec := "blockCounts", unfollowed := true, recurses := true, named := ["footlocker/symbol.lengthBases", "footlocker/symbol.distBases"], apart := false, laid := [("footlocker/symbol.lengthBases", laid_footlocker_symbol_lengthBases), ("footlocker/symbol.distBases", laid_footlocker_symbol_distBases)] }
def BlockCountsSaid : Prop := blockCountsRow.holds Tryz.pinned (OpenSpec.ofChange blockCountsSpec)

/-- ITS FALSE NEIGHBOUR: 'it returns false'. Refute it at one input. -/
def blockCountsWrong : ChangeSpec := { name := "blockCounts", fn := fun _ => fun
  | [d1, d2] => { results := [.lit (.bool false)], args := [d1, d2] }
  | _ => none }
def BlockCountsWrongFalsely : Prop := blockCountsRow.holds Tryz.pinned (OpenSpec.ofChange blockCountsWrong)

/- THE SECOND FORM. 'bulk': how many values and letters a reading holds, each counted each time it is reached (what is shared counts as often as it is met; a slice's spare places count too). A statement '..UptoSaid' is the law's where the arguments, and the package variables that the reading takes, are together of bulk at most 1048576: NARROWER than '..Said'. Prove '..Said' where nothing that the law and all that it calls make is longer than what came in: it says more and counts as full. Else prove '..UptoSaid'. A law counts once. -/
mutual
def uptoBulk {H : Type} : DataW H → Nat
  | .lit (.string bytes) => bytes.length + 1
  | .lit _ => 1
  | .nil => 1
  | .ptr d => uptoBulk d + 1
  | .slice elems spare => uptoBulkAll elems + uptoBulkAll spare + 1
  | .agg parts => uptoBulkAll parts + 1
  | .iface _ d => uptoBulk d + 1
  | .map entries => uptoBulkEntries entries + 1
  | .held _ => 1
def uptoBulkAll {H : Type} : List (DataW H) → Nat
  | [] => 0
  | d :: r => uptoBulk d + uptoBulkAll r
def uptoBulkEntries {H : Type} : List (Lit × DataW H) → Nat
  | [] => 0
  | x :: r => uptoBulkEntry x + uptoBulkEntries r
def uptoBulkEntry {H : Type} : Lit × DataW H → Nat
  | (.string bytes, d) => bytes.length + uptoBulk d + 1
  | (_, d) => uptoBulk d + 1
 end
def uptoSmall : (H : Type) → List (DataW H) → Bool := fun _ ds => decide (uptoBulkAll ds ≤ 1048576)
def OpenSpec.upto (s : _root_.Go.ChangeSpec) : _root_.Go.OpenSpec := { _root_.Go.OpenSpec.ofChange s with cond := some uptoSmall }

/-- 'footlockerlaw14.BlockWrites', WHERE WHAT IT READS IS OF BULK AT MOST 1048576: true; the input reads as it did. -/
def blockWritesUptoRow : OpenClaim := { program := "ythnbflkoipnakaagreatdoor", sum := "a78697627985a0f7c76d94d7ceab96d3d861a7d9b9e5c2a803d959a899565d5f", func := "footlocker/footlockerlaw14.BlockWrites", spec := "blockWrites", unfollowed := true, recurses := true, named := ["footlocker/symbol.lengthBases", "footlocker/symbol.distBases"], apart := false, laid := [("footlocker/symbol.lengthBases", laid_footlocker_symbol_lengthBases), ("footlocker/symbol.distBases", laid_footlocker_symbol_distBases)], narrowed := true }
def BlockWritesUptoSaid : Prop := blockWritesUptoRow.holds Tryz.pinned (OpenSpec.upto blockWritesSpec)

/-- 'footlockerlaw14.BlockUnpacks', WHERE WHAT IT READS IS OF BULK AT MOST 1048576: true; the input reads as it did. -/
def blockUnpacksUptoRow : OpenClaim := { program := "ythnbflkoipnakaagreatdoor", sum := "a78697627985a0f7c76d94d7ceab96d3d861a7d9b9e5c2a803d959a899565d5f", func := "footlocker/footlockerlaw14.BlockUnpacks", spec := "blockUnpacks", unfollowed := true, recurses := true, named := ["footlocker/symbol.lengthBases", "footlocker/symbol.distBases"], apart := false, laid := [("footlocker/symbol.lengthBases", laid_footlocker_symbol_lengthBases), ("footlocker/symbol.distBases", laid_footlocker_symbol_distBases)], narrowed := true }
def BlockUnpacksUptoSaid : Prop := blockUnpacksUptoRow.holds Tryz.pinned (OpenSpec.upto blockUnpacksSpec)

/-- 'footlockerlaw14.BlockRows', WHERE WHAT IT READS IS OF BULK AT MOST 1048576: true; the input reads as it did. -/
def blockRowsUptoRow : OpenClaim := { program := "ythnbflkoipnakaagreatdoor", sum := "a78697627985a0f7c76d94d7ceab96d3d861a7d9b9e5c2a803d959a899565d5f", func := "footlocker/footlockerlaw14.BlockRows", spec := "blockRows", unfollowed := true, recurses := true, named := ["footlocker/symbol.lengthBases", "footlocker/symbol.distBases"], apart := false, laid := [("footlocker/symbol.lengthBases", laid_footlocker_symbol_lengthBases), ("footlocker/symbol.distBases", laid_footlocker_symbol_distBases)], narrowed := true }
def BlockRowsUptoSaid : Prop := blockRowsUptoRow.holds Tryz.pinned (OpenSpec.upto blockRowsSpec)

/-- 'footlockerlaw14.BlockSizes', WHERE WHAT IT READS IS OF BULK AT MOST 1048576: true; the input reads as it did. -/
def blockSizesUptoRow : OpenClaim := { program := "ythnbflkoipnakaagreatdoor", sum := "a78697627985a0f7c76d94d7ceab96d3d861a7d9b9e5c2a803d959a899565d5f", func := "footlocker/footlockerlaw14.BlockSizes", spec := "blockSizes", unfollowed := true, recurses := true, named := ["footlocker/symbol.lengthBases", "footlocker/symbol.distBases"], apart := false, laid := [("footlocker/symbol.lengthBases", laid_footlocker_symbol_lengthBases), ("footlocker/symbol.distBases", laid_footlocker_symbol_distBases)], narrowed := true }
def BlockSizesUptoSaid : Prop := blockSizesUptoRow.holds Tryz.pinned (OpenSpec.upto blockSizesSpec)

/-- 'footlockerlaw14.BlockCounts', WHERE WHAT IT READS IS OF BULK AT MOST 1048576: true; the input reads as it did. -/
def blockCountsUptoRow : OpenClaim := { program := "ythnbflkoipnakaagreatdoor", sum := "a78697627985a0f7c76d94d7ceab96d3d861a7d9b9e5c2a803d959a899565d5f", func := "footlocker/footlockerlaw14.BlockCounts", spec := "blockCounts", unfollowed := true, recurses := true, named := ["footlocker/symbol.lengthBases", "footlocker/symbol.distBases"], apart := false, laid := [("footlocker/symbol.lengthBases", laid_footlocker_symbol_lengthBases), ("footlocker/symbol.distBases", laid_footlocker_symbol_distBases)], narrowed := true }
def BlockCountsUptoSaid : Prop := blockCountsUptoRow.holds Tryz.pinned (OpenSpec.upto blockCountsSpec)

end Rows
end Go.Proofs.YthnbflkoipnakaaGreatDoor
