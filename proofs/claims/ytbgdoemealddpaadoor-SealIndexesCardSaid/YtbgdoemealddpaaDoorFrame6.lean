/-
  WHAT THE LISTED TABLE GIVES THE WALKS: its sixteen words lie in block 0. No conditions.
-/
import Derived.Test.YtbgdoemealddpaaDoorLaw06
import Derived.Test.YtbgdoemealddpaaDoorRows
import Derived.Test.YtbgdoemealddpaaDoorBase
import Derived.LaidMore
import Derived.Stop.Joined
namespace Go.Proofs.YtbgdoemealddpaaDoor
open Go.ChangeShapes Go.WideShapes Go.ChangeAt Go.RowKit
set_option maxRecDepth 100000
set_option linter.unusedVariables false

def laid6 : List (String × DataW Unit) := [("footlocker/crc.fourBits", Rows.laid_footlocker_crc_fourBits)]
def tab6 : List Int := [0, 498536548, 997073096, 651767980, 1994146192, 1802195444, 1303535960, 1342533948, 3988292384, 4027552580, 3604390888, 3412177804, 2607071920, 2262029012, 2685067896, 3183342108]
theorem tab6_is : ∀ i, i < 16 → tab6.getD i 0 = ((st 4 (ofG i)).n : Int) := by decide +kernel
theorem laid6_is : (Rows.laid_footlocker_crc_fourBits : DataW Unit) = .agg (tab6.map fun k => .lit (.int .u32 k)) := rfl
theorem door_met (os : Os) (args : Array Value) : laidMetH Tryd.prog laid6 ((World.doorLaid Tryd.prog 400 os).forCall (fun _ _ => 0) ⟨#[], args, []⟩).memory :=
  laidMetH_of_parts3 (fuel := 8) (laidMet_of_run' 8 (by kernel_rfl) (by kernel_rfl)) (by kernel_rfl) (by kernel_rfl)
theorem word_of {a : Int} (h : (Lit.int .u32 a).wf = true) : ∃ x : G, a = (x.n : Int) := by
  have h1 : 0 ≤ a ∧ a < 4294967296 := by
    simp [Lit.wf, IntKind.min, IntKind.max, IntKind.bits, IntKind.signed] at h
    omega
  refine ⟨ofG a.toNat, ?_⟩
  rw [ofG_n _ (by omega)]
  omega
theorem tab_of {W : World} (h : laidMetH Tryd.prog laid6 W) : Tab W := by
  rw [MakeChecks.laidMetH_plain _ _ _ (by kernel_rfl)] at h
  obtain ⟨ps, ⟨g0, t0, cs0, f0, p0, q0, hg0, ht0, hv0, hd0, _, _⟩, _, _⟩ := h
  obtain rfl := Option.some.inj ((show Tryd.prog.globalNamed "footlocker/crc.fourBits" = some 0 by kernel_rfl).symm.trans hg0)
  obtain rfl := Option.some.inj ((show (Tryd.prog.globals[0]?).map (·.type) = some 90 by kernel_rfl).symm.trans ht0)
  obtain ⟨xs, m1, rfl, hx1, hlen, hn3, hel⟩ := DataW.trod_array Tryd.underlying90 hd0
  have c1 : Tryd.prog.cellsOf 54 = 1 := by kernel_rfl
  have hxs : xs.map (·.1) = tab6.map fun k => DataW.lit (.int .u32 k) := by
    rw [laid6_is] at hx1
    injection hx1 with e _
    injection e with e
    exact e.symm
  have key : ∀ i, i < 16 → W.cell? ⟨0, i, none⟩ = some (.int .u32 (tab6.getD i 0)) := fun i hi => by
    have h0 := hel i hi
    rw [c1, Nat.mul_one] at h0
    have hxi : xs[i]? = some xs[i] := List.getElem?_eq_getElem (by omega)
    rw [hxi] at h0
    obtain ⟨k, e1, e2, _⟩ := DataW.trod_int Tryd.underlying54 h0
    have hk : k = tab6.getD i 0 := by
      have h1 := congrArg (fun l : List (DataW Unit) => l[i]?) hxs
      simp only [List.getElem?_map] at h1
      rw [hxi, e2] at h1
      have hti : tab6[i]? = some (tab6[i]'(by show i < 16; exact hi)) := List.getElem?_eq_getElem _
      rw [hti] at h1
      simp at h1
      rw [h1, List.getD_eq_getElem?_getD, hti]
      rfl
    have h2 : cs0[i]? = some (.int .u32 k) := by
      have h3 := congrArg (fun l : List Value => l[0]?) e1
      simpa [List.getElem?_take, List.getElem?_drop] using h3
    rw [World.var?_cell hg0 hv0 i, h2, hk]
  exact ⟨World.block_lt_of_cell? W ⟨0, 0, none⟩ (key 0 (by omega)), fun i hi => by rw [key i hi, tab6_is i hi]⟩
end Go.Proofs.YtbgdoemealddpaaDoor
