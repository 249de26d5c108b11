/-
  WHAT THE LISTED TABLES GIVE THE WALKS: the bases of lengths and of distances lie in their blocks. No conditions.
-/
import Derived.Test.YtldgdofefcehnaaGreatDoorSym
import Derived.Test.YtldgdofefcehnaaGreatDoorRows
import Derived.Test.YtldgdofefcehnaaGreatDoorBase
import Derived.LaidMore
import Derived.Stop.Joined
namespace Go.Proofs.YtldgdofefcehnaaGreatDoor
open Go.ChangeShapes Go.WideShapes Go.ChangeAt Go.RowKit
set_option maxRecDepth 100000
set_option linter.unusedVariables false
def laid11 : List (String × DataW Unit) := [("footlocker/symbol.lengthBases", Rows.laid_footlocker_symbol_lengthBases), ("footlocker/symbol.distBases", Rows.laid_footlocker_symbol_distBases)]
def intsD (T : List Nat) : DataW Unit := .agg (T.map fun (k : Nat) => .lit (.int .i64 (k : Int)))
theorem door11_met (os : Os) (args : Array Value) : laidMetH Tryz.prog laid11 ((World.doorLaid Tryz.prog 400 os).forCall (fun _ _ => 0) ⟨#[], args, []⟩).memory :=
 laidMetH_of_parts3 (fuel := 8) (laidMet_of_run' 8 (by kernel_rfl) (by kernel_rfl)) (by kernel_rfl) (by kernel_rfl)
theorem ints_at {W : World} {name : String} {g n f : Nat} {t : TypeId} {cs : Array Value} {p : List MemPlace} {T : List Nat} (hu : Tryz.prog.underlying t = some (.array n 3))
  (hg : Tryz.prog.globalNamed name = some g) (hv : W.var? Tryz.prog name = some cs) (hd : DataW.trod (fun _ => ()) Tryz.prog W 0 (fun _ => true) false f t cs.toList = some (intsD T, p)) (hT : T.length = n) :
  ∀ i, i < n → W.cell? ⟨g, i, none⟩ = some (.int .i64 ((T.getD i 0 : Nat) : Int)) := by
 obtain ⟨xs, m1, rfl, hx1, hlen, hn3, hel⟩ := DataW.trod_array hu hd
 have c1 : Tryz.prog.cellsOf 3 = 1 := by kernel_rfl
 have hxs : xs.map (·.1) = T.map fun (k : Nat) => (DataW.lit (.int .i64 (k : Int)) : DataW Unit) := by
  injection hx1 with e _
  injection e with e
  exact e.symm
 intro i hi
 have h0 := hel i hi
 rw [c1, Nat.mul_one] at h0
 have hxi : xs[i]? = some xs[i] := List.getElem?_eq_getElem (by omega)
 rw [hxi] at h0
 obtain ⟨k, e1, e2, _⟩ := DataW.trod_int Tryz.underlying3 h0
 have hk : k = ((T.getD i 0 : Nat) : Int) := by
  have h1 := congrArg (fun l : List (DataW Unit) => l[i]?) hxs
  simp only [List.getElem?_map] at h1
  rw [hxi, e2] at h1
  have hti : T[i]? = some (T[i]'(by omega)) := List.getElem?_eq_getElem _
  rw [hti] at h1
  simp at h1
  rw [h1, List.getD_eq_getElem?_getD, hti]
  rfl
 have h2 : cs[i]? = some (.int .i64 k) := by
  have h3 := congrArg (fun l : List Value => l[0]?) e1
  simpa [List.getElem?_take, List.getElem?_drop] using h3
 rw [World.var?_cell hg hv i, h2, hk]
theorem tabs_of {W : World} (h : laidMetH Tryz.prog laid11 W) : Tabs W := by
 rw [MakeChecks.laidMetH_plain _ _ _ (by kernel_rfl)] at h
 obtain ⟨ps, ⟨g0, t0, cs0, f0, p0, q0, hg0, ht0, hv0, hd0, ⟨g1, t1, cs1, f1, p1, q1, hg1, ht1, hv1, hd1, _, _⟩, _⟩, _, _⟩ := h
 obtain rfl := Option.some.inj ((show Tryz.prog.globalNamed "footlocker/symbol.lengthBases" = some 0 by kernel_rfl).symm.trans hg0)
 obtain rfl := Option.some.inj ((show (Tryz.prog.globals[0]?).map (·.type) = some 165 by kernel_rfl).symm.trans ht0)
 obtain rfl := Option.some.inj ((show Tryz.prog.globalNamed "footlocker/symbol.distBases" = some 1 by kernel_rfl).symm.trans hg1)
 obtain rfl := Option.some.inj ((show (Tryz.prog.globals[1]?).map (·.type) = some 168 by kernel_rfl).symm.trans ht1)
 have a1 := ints_at (T := lbT) Tryz.underlying165 hg0 hv0 hd0 rfl
 have a2 := ints_at (T := dbT) Tryz.underlying168 hg1 hv1 hd1 rfl
 exact ⟨World.block_lt_of_cell? W ⟨1, 0, none⟩ (a2 0 (by omega)), a1, a2⟩
end Go.Proofs.YtldgdofefcehnaaGreatDoor
