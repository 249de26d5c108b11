/-
  WHAT THE PROOFS OF LAW 16 SHARE: the listed tables of the library (no walk reads them), rows of strings that come in. No conditions.
-/
import Derived.Test.YtcodgamhgfafnaaDoorNamE
import Derived.Test.YtcodgamhgfafnaaDoorRows
import Derived.LaidMore
import Derived.Stop.Joined
import Derived.Lay
import Derived.SliceStrings
namespace Go.Proofs.YtcodgamhgfafnaaDoor
open Go.ChangeShapes Go.WideShapes Go.ChangeAt Go.RowKit
set_option maxRecDepth 100000
set_option linter.unusedVariables false

def laid16 : List (String × DataW Unit) := [("unicode/utf8.acceptRanges", Rows.laid_unicode_utf8_acceptRanges), ("unicode/utf8.first", Rows.laid_unicode_utf8_first)]
theorem triv16 {W : World} (h : laidMetH Tryd.prog laid16 W) : True := trivial
/-- a row of strings that came in -/
theorem SRow.ofCells {W : World} {x : Addr} {l c : Nat} {ss : List ByteArray} (hl : l ≤ c) (hm : c ≤ maxLen) (hz : ss.length = c) (hcell : ∀ i, i < ss.length → W.cell? (x.add i) = some (.string (ss.getD i ByteArray.empty))) (hws : ∀ s ∈ ss, s.size ≤ maxLen) :
    SRow W (some x) l ((ss.take l).map fun s => s.data.toList) ∧ ∀ i, i < l → (((ss.take l).map fun s => s.data.toList).getD i []).length ≤ maxLen := by
  have hg : ∀ i, i < l → ∃ h : i < ss.length, ((ss.take l).map fun s => s.data.toList).getD i [] = ss[i].data.toList := fun i hi => by
    have h2 : i < ss.length := by omega
    refine ⟨h2, ?_⟩
    simp [List.getD_eq_getElem?_getD, hi, h2]
  refine ⟨⟨by simp; omega, fun hn => ?_⟩, fun i hi => ?_⟩
  · obtain ⟨b, off, spot⟩ := x
    have h0 := hcell 0 (by omega)
    have hspot : spot = none := by simpa [Addr.add] using World.cell?_spot h0
    subst hspot
    refine ⟨b, off, rfl, World.block_lt_of_cell? W _ h0, fun i hi => ?_⟩
    obtain ⟨h2, e2⟩ := hg i hi
    have h1 := hcell i h2
    have e : (⟨b, off, none⟩ : Addr).add i = ⟨b, off + i, none⟩ := by unfold Addr.add; split <;> simp_all
    rw [e] at h1
    rw [h1, e2, S_of, List.getD_eq_getElem?_getD, List.getElem?_eq_getElem h2]
    rfl
  · obtain ⟨h2, e2⟩ := hg i hi
    rw [e2]
    have := hws _ (List.getElem_mem h2)
    exact this
end Go.Proofs.YtcodgamhgfafnaaDoor
