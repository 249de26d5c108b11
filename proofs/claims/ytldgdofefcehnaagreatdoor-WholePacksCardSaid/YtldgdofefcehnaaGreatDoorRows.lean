/-
  NARROWER THAN 'FOR EVERY INPUT', by the rows' own cells (each row's printed sentence says how): DeflateBack: laid · DeflateSizes: laid · DeflateRuns: laid · DeflateForms: laid · DeflateMethods: laid · WholePacks: laid · WholeTokens: laid · WholeCodes: laid.
  DERIVED. THE GIVEN ROWS OF THIS SEAT. 8 by the template 'for every input the law returns true; each argument reads behind the call as it read before'; 0 by the template 'total and deterministic' (their statements: YtldgdofefcehnaaGreatDoorTotals.lean).
  GIVEN WITH THE SEED: the statements are not yours to turn. If you find one false, say at which input.
  Laid BY PROGRAM, IN A SANDBOX (cutbox-rows.mjs): the forced cells as the released guide's own fill.sh prints them over the translation a4d95f40514e3ff2… (all of the seat's roots in one cut). By AI agents, Wed Nov 11 2026. No macro, syntax, notation, axiom, sorry.
-/
import Derived.Test.YtldgdofefcehnaaGreatDoorChecked
import GoSem.Claim
import GoSem.ClaimJoined
import GoSem.ClaimMapViews
import Derived.JoinedTies
import Derived.KernelRfl
namespace Go.Proofs.YtldgdofefcehnaaGreatDoor
/- THE CELL 'sum', in the pinned program and in every row, IS THE sha256 OF THE DUMP (.gsa) THAT YtldgdofefcehnaaGreatDoorProg.lean LOADS. Nothing in Lean hashes anything: it is a label: what it is worth is what the hold of that sum in a sandbox is worth. -/
noncomputable def Tryz.pinned : Pinned := { name := "ytldgdofefcehnaagreatdoor", sum := "a4d95f40514e3ff2c6e4ee68717be5b01d993db12e8e4b7e8fbf6b7ae55d820b", checked := Tryz.checked }
namespace Rows
def none {H : Type} : Left H := { results := [], args := [] }

/- WHAT THE LISTED PACKAGE-LEVEL VARIABLES READ AS WHEN THE CALL BEGINS. Each datum BY PROGRAM (the guide's laid-datum.mjs) off the statement by which the dump's own 'gosem.cut.vars' lays the variable. In a bare row this is a premise. The card (YtldgdofefcehnaaGreatDoorCards.lean) ties it to the program's text. -/
def laid_footlocker_symbol_lengthBases {H : Type} : DataW H := .agg [.lit (.int .i64 3), .lit (.int .i64 4), .lit (.int .i64 5), .lit (.int .i64 6), .lit (.int .i64 7), .lit (.int .i64 8), .lit (.int .i64 9), .lit (.int .i64 10), .lit (.int .i64 11), .lit (.int .i64 13), .lit (.int .i64 15), .lit (.int .i64 17), .lit (.int .i64 19), .lit (.int .i64 23), .lit (.int .i64 27), .lit (.int .i64 31), .lit (.int .i64 35), .lit (.int .i64 43), .lit (.int .i64 51), .lit (.int .i64 59), .lit (.int .i64 67), .lit (.int .i64 83), .lit (.int .i64 99), .lit (.int .i64 115), .lit (.int .i64 131), .lit (.int .i64 163), .lit (.int .i64 195), .lit (.int .i64 227), .lit (.int .i64 258)]
def laid_footlocker_symbol_distBases {H : Type} : DataW H := .agg [.lit (.int .i64 1), .lit (.int .i64 2), .lit (.int .i64 3), .lit (.int .i64 4), .lit (.int .i64 5), .lit (.int .i64 7), .lit (.int .i64 9), .lit (.int .i64 13), .lit (.int .i64 17), .lit (.int .i64 25), .lit (.int .i64 33), .lit (.int .i64 49), .lit (.int .i64 65), .lit (.int .i64 97), .lit (.int .i64 129), .lit (.int .i64 193), .lit (.int .i64 257), .lit (.int .i64 385), .lit (.int .i64 513), .lit (.int .i64 769), .lit (.int .i64 1025), .lit (.int .i64 1537), .lit (.int .i64 2049), .lit (.int .i64 3073), .lit (.int .i64 4097), .lit (.int .i64 6145), .lit (.int .i64 8193), .lit (.int .i64 12289), .lit (.int .i64 16385), .lit (.int .i64 24577)]

/-- 'footlockerlaw15.DeflateBack': WHATEVER THE INPUT: true; the input reads as it did. -/
def deflateBackSpec : ChangeSpec := { name := "deflateBack", fn := fun _ => fun
  | [d1, d2] => { results := [.lit (.bool true)], args := [d1, d2] }
  | _ => none }
def deflateBackRow : OpenClaim := { program := "ytldgdofefcehnaagreatdoor", sum := "a4d95f40514e3ff2c6e4ee68717be5b01d993db12e8e4b7e8fbf6b7ae55d820b", func := "footlocker/footlockerlaw15.DeflateBack", spec := "deflateBack", unfollowed := true, recurses := true, named := ["footlocker/symbol.lengthBases", "footlocker/symbol.distBases"], apart := false, laid := [("footlocker/symbol.lengthBases", laid_footlocker_symbol_lengthBases), ("footlocker/symbol.distBases", laid_footlocker_symbol_distBases)] }
def DeflateBackSaid : Prop := deflateBackRow.holds Tryz.pinned (OpenSpec.ofChange deflateBackSpec)

/-- ITS FALSE NEIGHBOUR: 'it returns false'. Refute it at one input. -/
def deflateBackWrong : ChangeSpec := { name := "deflateBack", fn := fun _ => fun
  | [d1, d2] => { results := [.lit (.bool false)], args := [d1, d2] }
  | _ => none }
def DeflateBackWrongFalsely : Prop := deflateBackRow.holds Tryz.pinned (OpenSpec.ofChange deflateBackWrong)

/-- 'footlockerlaw15.DeflateSizes': WHATEVER THE INPUT: true; the input reads as it did. -/
def deflateSizesSpec : ChangeSpec := { name := "deflateSizes", fn := fun _ => fun
  | [d1, d2, d3] => { results := [.lit (.bool true)], args := [d1, d2, d3] }
  | _ => none }
def deflateSizesRow : OpenClaim := { program := "ytldgdofefcehnaagreatdoor", sum := "a4d95f40514e3ff2c6e4ee68717be5b01d993db12e8e4b7e8fbf6b7ae55d820b", func := "footlocker/footlockerlaw15.DeflateSizes", spec := "deflateSizes", unfollowed := true, recurses := true, named := ["footlocker/symbol.lengthBases", "footlocker/symbol.distBases"], apart := false, laid := [("footlocker/symbol.lengthBases", laid_footlocker_symbol_lengthBases), ("footlocker/symbol.distBases", laid_footlocker_symbol_distBases)] }
def DeflateSizesSaid : Prop := deflateSizesRow.holds Tryz.pinned (OpenSpec.ofChange deflateSizesSpec)

/-- ITS FALSE NEIGHBOUR: 'it returns false'. Refute it at one input. -/
def deflateSizesWrong : ChangeSpec := { name := "deflateSizes", fn := fun _ => fun
  | [d1, d2, d3] => { results := [.lit (.bool false)], args := [d1, d2, d3] }
  | _ => none }
def DeflateSizesWrongFalsely : Prop := deflateSizesRow.holds Tryz.pinned (OpenSpec.ofChange deflateSizesWrong)

/-- 'footlockerlaw15.DeflateRuns': WHATEVER THE INPUT: true; the input reads as it did. -/
def deflateRunsSpec : ChangeSpec := { name := "deflateRuns", fn := fun _ => fun
  | [d1, d2, d3] => { results := [.lit (.bool true)], args := [d1, d2, d3] }
  | _ => none }
def deflateRunsRow : OpenClaim := { program := "ytldgdofefcehnaagreatdoor", sum := "a4d95f40514e3ff2c6e4ee68717be5b01d993db12e8e4b7e8fbf6b7ae55d820b", func := "footlocker/footlockerlaw15.DeflateRuns", spec := "deflateRuns", unfollowed := true, recurses := true, named := ["footlocker/symbol.lengthBases", "footlocker/symbol.distBases"], apart := false, laid := [("footlocker/symbol.lengthBases", laid_footlocker_symbol_lengthBases), ("footlocker/symbol.distBases", laid_footlocker_symbol_distBases)] }
def DeflateRunsSaid : Prop := deflateRunsRow.holds Tryz.pinned (OpenSpec.ofChange deflateRunsSpec)

/-- ITS FALSE NEIGHBOUR: 'it returns false'. Refute it at one input. -/
def deflateRunsWrong : ChangeSpec := { name := "deflateRuns", fn := fun _ => fun
  | [d1, d2, d3] => { results := [.lit (.bool false)], args := [d1, d2, d3] }
  | _ => none }
def DeflateRunsWrongFalsely : Prop := deflateRunsRow.holds Tryz.pinned (OpenSpec.ofChange deflateRunsWrong)

/-- 'footlockerlaw15.DeflateForms': WHATEVER THE INPUT: true; the input reads as it did. -/
def deflateFormsSpec : ChangeSpec := { name := "deflateForms", fn := fun _ => fun
  | [d1, d2] => { results := [.lit (.bool true)], args := [d1, d2] }
  | _ => none }
def deflateFormsRow : OpenClaim := { program := "ytldgdofefcehnaagreatdoor", sum := "a4d95f40514e3ff2c6e4ee68717be5b01d993db12e8e4b7e8fbf6b7ae55d820b", func := "footlocker/footlockerlaw15.DeflateForms", spec := "deflateForms", unfollowed := true, recurses := true, named := ["footlocker/symbol.lengthBases", "footlocker/symbol.distBases"], apart := false, laid := [("footlocker/symbol.lengthBases", laid_footlocker_symbol_lengthBases), ("footlocker/symbol.distBases", laid_footlocker_symbol_distBases)] }
def DeflateFormsSaid : Prop := deflateFormsRow.holds Tryz.pinned (OpenSpec.ofChange deflateFormsSpec)

/-- ITS FALSE NEIGHBOUR: 'it returns false'. Refute it at one input. -/
def deflateFormsWrong : ChangeSpec := { name := "deflateForms", fn := fun _ => fun
  | [d1, d2] => { results := [.lit (.bool false)], args := [d1, d2] }
  | _ => none }
def DeflateFormsWrongFalsely : Prop := deflateFormsRow.holds Tryz.pinned (OpenSpec.ofChange deflateFormsWrong)

/-- 'footlockerlaw15.DeflateMethods': WHATEVER THE INPUT: true; the input reads as it did. -/
def deflateMethodsSpec : ChangeSpec := { name := "deflateMethods", fn := fun _ => fun
  | [d1, d2] => { results := [.lit (.bool true)], args := [d1, d2] }
  | _ => none }
def deflateMethodsRow : OpenClaim := { program := "ytldgdofefcehnaagreatdoor", sum := "a4d95f40514e3ff2c6e4ee68717be5b01d993db12e8e4b7e8fbf6b7ae55d820b", func := "footlocker/footlockerlaw15.DeflateMethods", spec := "deflateMethods", unfollowed := true, recurses := true, named := ["footlocker/symbol.lengthBases", "footlocker/symbol.distBases"], apart := false, laid := [("footlocker/symbol.lengthBases", laid_footlocker_symbol_lengthBases), ("footlocker/symbol.distBases", laid_footlocker_symbol_distBases)] }
def DeflateMethodsSaid : Prop := deflateMethodsRow.holds Tryz.pinned (OpenSpec.ofChange deflateMethodsSpec)

/-- ITS FALSE NEIGHBOUR: 'it returns false'. Refute it at one input. -/
def deflateMethodsWrong : ChangeSpec := { name := "deflateMethods", fn := fun _ => fun
  | [d1, d2] => { results := [.lit (.bool false)], args := [d1, d2] }
  | _ => none }
def DeflateMethodsWrongFalsely : Prop := deflateMethodsRow.holds Tryz.pinned (OpenSpec.ofChange deflateMethodsWrong)

/-- 'footlockertop.WholePacks': WHATEVER THE INPUT: true; the input reads as it did. -/
def wholePacksSpec : ChangeSpec := { name := "wholePacks", fn := fun _ => fun
  | [d1, d2, d3, d4] => { results := [.lit (.bool true)], args := [d1, d2, d3, d4] }
  | _ => none }
def wholePacksRow : OpenClaim := { program := "ytldgdofefcehnaagreatdoor", sum := "a4d95f40514e3ff2c6e4ee68717be5b01d993db12e8e4b7e8fbf6b7ae55d820b", func := "footlocker/footlockertop.WholePacks", spec := "wholePacks", unfollowed := true, recurses := true, named := ["footlocker/symbol.lengthBases", "footlocker/symbol.distBases"], apart := false, laid := [("footlocker/symbol.lengthBases", laid_footlocker_symbol_lengthBases), ("footlocker/symbol.distBases", laid_footlocker_symbol_distBases)] }
def WholePacksSaid : Prop := wholePacksRow.holds Tryz.pinned (OpenSpec.ofChange wholePacksSpec)

/-- ITS FALSE NEIGHBOUR: 'it returns false'. Refute it at one input. -/
def wholePacksWrong : ChangeSpec := { name := "wholePacks", fn := fun _ => fun
  | [d1, d2, d3, d4] => { results := [.lit (.bool false)], args := [d1, d2, d3, d4] }
  | _ => none }
def WholePacksWrongFalsely : Prop := wholePacksRow.holds Tryz.pinned (OpenSpec.ofChange wholePacksWrong)

/-- 'footlockertop.WholeTokens': WHATEVER THE INPUT: true; the input reads as it did. -/
def wholeTokensSpec : ChangeSpec := { name := "wholeTokens", fn := fun _ => fun
  | [d1, d2, d3, d4] => { results := [.lit (.bool true)], args := [d1, d2, d3, d4] }
  | _ => none }
def wholeTokensRow : OpenClaim := { program := "ytldgdofefcehnaagreatdoor", sum := "a4d95f40514e3ff2c6e4ee68717be5b01d993db12e8e4b7e8fbf6b7ae55d820b", func := "footlocker/footlockertop.WholeTokens", spec := "wholeTokens", unfollowed := true, recurses := true, named := ["footlocker/symbol.lengthBases", "footlocker/symbol.distBases"], apart := false, laid := [("footlocker/symbol.lengthBases", laid_footlocker_symbol_lengthBases), ("footlocker/symbol.distBases", laid_footlocker_symbol_distBases)] }
def WholeTokensSaid : Prop := wholeTokensRow.holds Tryz.pinned (OpenSpec.ofChange wholeTokensSpec)

/-- ITS FALSE NEIGHBOUR: 'it returns false'. Refute it at one input. -/
def wholeTokensWrong : ChangeSpec := { name := "wholeTokens", fn := fun _ => fun
  | [d1, d2, d3, d4] => { results := [.lit (.bool false)], args := [d1, d2, d3, d4] }
  | _ => none }
def WholeTokensWrongFalsely : Prop := wholeTokensRow.holds Tryz.pinned (OpenSpec.ofChange wholeTokensWrong)

/-- 'footlockertop.WholeCodes': WHATEVER THE INPUT: true; the input reads as it did. -/
def wholeCodesSpec : ChangeSpec := { name := "wholeCodes", fn := fun _ => fun
  | [d1, d2, d3] => { results := [.lit (.bool true)], args := [d1, d2, d3] }
  | _ => none }
def wholeCodesRow : OpenClaim := { program := "ytldgdofefcehnaagreatdoor", sum := "a4d95f40514e3ff2c6e4ee68717be5b01d993db12e8e4b7e8fbf6b7ae55d820b", func := "footlocker/footlockertop.WholeCodes", spec := "wholeCodes", unfollowed := true, recurses := true, named := ["footlocker/symbol.lengthBases", "footlocker/symbol.distBases"], apart := false, laid := [("footlocker/symbol.lengthBases", laid_footlocker_symbol_lengthBases), ("footlocker/symbol.distBases", laid_footlocker_symbol_distBases)] }
def WholeCodesSaid : Prop := wholeCodesRow.holds Tryz.pinned (OpenSpec.ofChange wholeCodesSpec)

/-- ITS FALSE NEIGHBOUR: 'it returns false'. Refute it at one input. -/
def wholeCodesWrong : ChangeSpec := { name := "wholeCodes", fn := fun _ => fun
  | [d1, d2, d3] => { results := [.lit (.bool false)], args := [d1, d2, d3] }
  | _ => none }
def WholeCodesWrongFalsely : Prop := wholeCodesRow.holds Tryz.pinned (OpenSpec.ofChange wholeCodesWrong)

/- THE SECOND FORM. 'bulk': how many values and letters a reading holds, each counted each time it is reached (what is shared counts as often as it is met; a slice's spare places count too). A statement '..UptoSaid' is the law's where the arguments, and the package variables that the reading takes, are together of bulk at most 1048576: NARROWER than '..Said'. Prove '..Said' where nothing that the law and all that it calls make is longer than what came in: it says more and counts as full. Else prove '..UptoSaid'. A law counts once. -/
mutual
def uptoBulk {H : Type} : DataW H → Nat
  | .lit (.string bytes) => bytes.length + 1
  | .lit _ => 1
  | .nil => 1
  | .ptr d => uptoBulk d + 1
  | .slice elems spare => uptoBulkAll elems + uptoBulkAll spare + 1
  | .agg parts => uptoBulkAll parts + 1
  | .iface _ d => uptoBulk d + 1
  | .map entries => uptoBulkEntries entries + 1
  | .held _ => 1
def uptoBulkAll {H : Type} : List (DataW H) → Nat
  | [] => 0
  | d :: r => uptoBulk d + uptoBulkAll r
def uptoBulkEntries {H : Type} : List (Lit × DataW H) → Nat
  | [] => 0
  | x :: r => uptoBulkEntry x + uptoBulkEntries r
def uptoBulkEntry {H : Type} : Lit × DataW H → Nat
  | (.string bytes, d) => bytes.length + uptoBulk d + 1
  | (_, d) => uptoBulk d + 1
 end
def uptoSmall : (H : Type) → List (DataW H) → Bool := fun _ ds => decide (uptoBulkAll ds ≤ 1048576)
def OpenSpec.upto (s : _root_.Go.ChangeSpec) : _root_.Go.OpenSpec := { _root_.Go.OpenSpec.ofChange s with cond := some uptoSmall }

/-- 'footlockerlaw15.DeflateBack', WHERE WHAT IT READS IS OF BULK AT MOST 1048576: true; the input reads as it did. -/
def deflateBackUptoRow : OpenClaim := { program := "ytldgdofefcehnaagreatdoor", sum := "a4d95f40514e3ff2c6e4ee68717be5b01d993db12e8e4b7e8fbf6b7ae55d820b", func := "footlocker/footlockerlaw15.DeflateBack", spec := "deflateBack", unfollowed := true, recurses := true, named := ["footlocker/symbol.lengthBases", "footlocker/symbol.distBases"], apart := false, laid := [("footlocker/symbol.lengthBases", laid_footlocker_symbol_lengthBases), ("footlocker/symbol.distBases", laid_footlocker_symbol_distBases)], narrowed := true }
def DeflateBackUptoSaid : Prop := deflateBackUptoRow.holds Tryz.pinned (OpenSpec.upto deflateBackSpec)

/-- 'footlockerlaw15.DeflateSizes', WHERE WHAT IT READS IS OF BULK AT MOST 1048576: true; the input reads as it did. -/
def deflateSizesUptoRow : OpenClaim := { program := "ytldgdofefcehnaagreatdoor", sum := "a4d95f40514e3ff2c6e4ee68717be5b01d993db12e8e4b7e8fbf6b7ae55d820b", func := "footlocker/footlockerlaw15.DeflateSizes", spec := "deflateSizes", unfollowed := true, recurses := true, named := ["footlocker/symbol.lengthBases", "footlocker/symbol.distBases"], apart := false, laid := [("footlocker/symbol.lengthBases", laid_footlocker_symbol_lengthBases), ("footlocker/symbol.distBases", laid_footlocker_symbol_distBases)], narrowed := true }
def DeflateSizesUptoSaid : Prop := deflateSizesUptoRow.holds Tryz.pinned (OpenSpec.upto deflateSizesSpec)

/-- 'footlockerlaw15.DeflateRuns', WHERE WHAT IT READS IS OF BULK AT MOST 1048576: true; the input reads as it did. -/
def deflateRunsUptoRow : OpenClaim := { program := "ytldgdofefcehnaagreatdoor", sum := "a4d95f40514e3ff2c6e4ee68717be5b01d993db12e8e4b7e8fbf6b7ae55d820b", func := "footlocker/footlockerlaw15.DeflateRuns", spec := "deflateRuns", unfollowed := true, recurses := true, named := ["footlocker/symbol.lengthBases", "footlocker/symbol.distBases"], apart := false, laid := [("footlocker/symbol.lengthBases", laid_footlocker_symbol_lengthBases), ("footlocker/symbol.distBases", laid_footlocker_symbol_distBases)], narrowed := true }
def DeflateRunsUptoSaid : Prop := deflateRunsUptoRow.holds Tryz.pinned (OpenSpec.upto deflateRunsSpec)

/-- 'footlockerlaw15.DeflateForms', WHERE WHAT IT READS IS OF BULK AT MOST 1048576: true; the input reads as it did. -/
def deflateFormsUptoRow : OpenClaim := { program := "ytldgdofefcehnaagreatdoor", sum := "a4d95f40514e3ff2c6e4ee68717be5b01d993db12e8e4b7e8fbf6b7ae55d820b", func := "footlocker/footlockerlaw15.DeflateForms", spec := "deflateForms", unfollowed := true, recurses := true, named := ["footlocker/symbol.lengthBases", "footlocker/symbol.distBases"], apart := false, laid := [("footlocker/symbol.lengthBases", laid_footlocker_symbol_lengthBases), ("footlocker/symbol.distBases", laid_footlocker_symbol_distBases)], narrowed := true }
def DeflateFormsUptoSaid : Prop := deflateFormsUptoRow.holds Tryz.pinned (OpenSpec.upto deflateFormsSpec)

/-- 'footlockerlaw15.DeflateMethods', WHERE WHAT IT READS IS OF BULK AT MOST 1048576: true; the input reads as it did. -/
def deflateMethodsUptoRow : OpenClaim := { program := "ytldgdofefcehnaagreatdoor", sum := "a4d95f40514e3ff2c6e4ee68717be5b01d993db12e8e4b7e8fbf6b7ae55d820b", func := "footlocker/footlockerlaw15.DeflateMethods", spec := "deflateMethods", unfollowed := true, recurses := true, named := ["footlocker/symbol.lengthBases", "footlocker/symbol.distBases"], apart := false, laid := [("footlocker/symbol.lengthBases", laid_footlocker_symbol_lengthBases), ("footlocker/symbol.distBases", laid_footlocker_symbol_distBases)], narrowed := true }
def DeflateMethodsUptoSaid : Prop := deflateMethodsUptoRow.holds Tryz.pinned (OpenSpec.upto deflateMethodsSpec)

/-- 'footlockertop.WholePacks', WHERE WHAT IT READS IS OF BULK AT MOST 1048576: true; the input reads as it did. -/
def wholePacksUptoRow : OpenClaim := { program := "ytldgdofefcehnaagreatdoor", sum := "a4d95f40514e3ff2c6e4ee68717be5b01d993db12e8e4b7e8fbf6b7ae55d820b", func := "footlocker/footlockertop.WholePacks", spec := "wholePacks", unfollowed := true, recurses := true, named := ["footlocker/symbol.lengthBases", "footlocker/symbol.distBases"], apart := false, laid := [("footlocker/symbol.lengthBases", laid_footlocker_symbol_lengthBases), ("footlocker/symbol.distBases", laid_footlocker_symbol_distBases)], narrowed := true }
def WholePacksUptoSaid : Prop := wholePacksUptoRow.holds Tryz.pinned (OpenSpec.upto wholePacksSpec)

/-- 'footlockertop.WholeTokens', WHERE WHAT IT READS IS OF BULK AT MOST 1048576: true; the input reads as it did. -/
def wholeTokensUptoRow : OpenClaim := { program := "ytldgdofefcehnaagreatdoor", sum := "a4d95f40514e3ff2c6e4ee68717be5b01d993db12e8e4b7e8fbf6b7ae55d820b", func := "footlocker/footlockertop.WholeTokens", spec := "wholeTokens", unfollowed := true, recurses := true, named := ["footlocker/symbol.lengthBases", "footlocker/symbol.distBases"], apart := false, laid := [("footlocker/symbol.lengthBases", laid_footlocker_symbol_lengthBases), ("footlocker/symbol.distBases", laid_footlocker_symbol_distBases)], narrowed := true }
def WholeTokensUptoSaid : Prop := wholeTokensUptoRow.holds Tryz.pinned (OpenSpec.upto wholeTokensSpec)

/-- 'footlockertop.WholeCodes', WHERE WHAT IT READS IS OF BULK AT MOST 1048576: true; the input reads as it did. -/
def wholeCodesUptoRow : OpenClaim := { program := "ytldgdofefcehnaagreatdoor", sum := "a4d95f40514e3ff2c6e4ee68717be5b01d993db12e8e4b7e8fbf6b7ae55d820b", func := "footlocker/footlockertop.WholeCodes", spec := "wholeCodes", unfollowed := true, recurses := true, named := ["footlocker/symbol.lengthBases", "footlocker/symbol.distBases"], apart := false, laid := [("footlocker/symbol.lengthBases", laid_footlocker_symbol_lengthBases), ("footlocker/symbol.distBases", laid_footlocker_symbol_distBases)], narrowed := true }
def WholeCodesUptoSaid : Prop := wholeCodesUptoRow.holds Tryz.pinned (OpenSpec.upto wholeCodesSpec)

end Rows
end Go.Proofs.YtldgdofefcehnaaGreatDoor
