/-
  WHAT THE LISTED TABLE GIVES THE WALKS: how many days months have lies in block 0; a stamp that comes in. No conditions.
-/
import Derived.Test.YtacllgglpjdobaaDoorStm
import Derived.Test.YtacllgglpjdobaaDoorRows
import Derived.Test.YtacllgglpjdobaaDoorBase
import Derived.LaidMore
import Derived.Stop.Joined
import Derived.Deep.Fields
namespace Go.Proofs.YtacllgglpjdobaaDoor
open Go.ChangeShapes Go.WideShapes Go.ChangeAt Go.RowKit
set_option maxRecDepth 100000
set_option linter.unusedVariables false

def laid17 : List (String × DataW Unit) := [("footlocker/stamp.monthDays", Rows.laid_footlocker_stamp_monthDays)]
def mintsD (T : List Nat) : DataW Unit := .agg (T.map fun (k : Nat) => .lit (.int .i64 (k : Int)))
theorem laidM_is : (Rows.laid_footlocker_stamp_monthDays : DataW Unit) = mintsD mdT := rfl
theorem door17_met (os : Os) (args : Array Value) : laidMetH Tryd.prog laid17 ((World.doorLaid Tryd.prog 400 os).forCall (fun _ _ => 0) ⟨#[], args, []⟩).memory :=
  laidMetH_of_parts3 (fuel := 8) (laidMet_of_run' 8 (by kernel_rfl) (by kernel_rfl)) (by kernel_rfl) (by kernel_rfl)
theorem mints_at {W : World} {name : String} {g n f : Nat} {t : TypeId} {cs : Array Value} {p : List MemPlace} {T : List Nat} (hu : Tryd.prog.underlying t = some (.array n 3))
    (hg : Tryd.prog.globalNamed name = some g) (hv : W.var? Tryd.prog name = some cs) (hd : DataW.trod (fun _ => ()) Tryd.prog W 0 (fun _ => true) false f t cs.toList = some (mintsD T, p)) (hT : T.length = n) :
    ∀ i, i < n → W.cell? ⟨g, i, none⟩ = some (.int .i64 ((T.getD i 0 : Nat) : Int)) := by
  obtain ⟨xs, m1, rfl, hx1, hlen, hn3, hel⟩ := DataW.trod_array hu hd
  have c1 : Tryd.prog.cellsOf 3 = 1 := by kernel_rfl
  have hxs : xs.map (·.1) = T.map fun (k : Nat) => (DataW.lit (.int .i64 (k : Int)) : DataW Unit) := by
    injection hx1 with e _
    injection e with e
    exact e.symm
  intro i hi
  have h0 := hel i hi
  rw [c1, Nat.mul_one] at h0
  have hxi : xs[i]? = some xs[i] := List.getElem?_eq_getElem (by omega)
  rw [hxi] at h0
  obtain ⟨k, e1, e2, _⟩ := DataW.trod_int Tryd.underlying3 h0
  have hk : k = ((T.getD i 0 : Nat) : Int) := by
    have h1 := congrArg (fun l : List (DataW Unit) => l[i]?) hxs
    simp only [List.getElem?_map] at h1
    rw [hxi, e2] at h1
    have hti : T[i]? = some (T[i]'(by omega)) := List.getElem?_eq_getElem _
    rw [hti] at h1
    simp at h1
    rw [h1, List.getD_eq_getElem?_getD, hti]
    rfl
  have h2 : cs[i]? = some (.int .i64 k) := by
    have h3 := congrArg (fun l : List Value => l[0]?) e1
    simpa [List.getElem?_take, List.getElem?_drop] using h3
  rw [World.var?_cell hg hv i, h2, hk]
theorem tabm_of {W : World} (h : laidMetH Tryd.prog laid17 W) : TabM W := by
  rw [MakeChecks.laidMetH_plain _ _ _ (by kernel_rfl)] at h
  obtain ⟨ps, ⟨g0, t0, cs0, f0, p0, q0, hg0, ht0, hv0, hd0, _, _⟩, _, _⟩ := h
  obtain rfl := Option.some.inj ((show Tryd.prog.globalNamed "footlocker/stamp.monthDays" = some 0 by kernel_rfl).symm.trans hg0)
  obtain rfl := Option.some.inj ((show (Tryd.prog.globals[0]?).map (·.type) = some 112 by kernel_rfl).symm.trans ht0)
  have a1 := mints_at (T := mdT) Tryd.underlying112 hg0 hv0 hd0 rfl
  exact ⟨World.block_lt_of_cell? W ⟨0, 0, none⟩ (a1 0 (by omega)), a1⟩
/-- a struct of fields of one cell each that comes in -/
theorem open_fields_of {H : Type} {enc : TypeId × Value → H} {W : World} {r : Reach} {b0 base : Nat} {spare : Nat → Bool} {held : Bool} {t : TypeId} {fs : Array Field} {v : Value} {d : DataW H} {p : List MemPlace} (hs : Tryd.prog.underlying t = some (.struct fs))
    (hone : Go.Deep.oneCellFields Tryd.prog fs = true) (hC : Tryd.prog.cellsOf t = fs.size) (hv : Value.okWide Tryd.prog W r b0 t v) (h : DataW.Trod enc Tryd.prog W base spare held t v d p) :
    ∃ cs : Array Value, v = .agg cs ∧ cs.size = fs.size ∧ ∀ (i : Nat) (f : Field), fs[i]? = some f → ∃ (x : Value) (y : DataW H × List MemPlace) (n : Nat), cs[i]? = some x ∧ DataW.trod enc Tryd.prog W base spare held n f.type [x] = some y := by
  obtain ⟨cs, rfl, hsz⟩ := okWide_struct hs hv
  obtain ⟨fuel, hf⟩ := h
  obtain ⟨xs, n, _, hx, hlen, hxl, hg⟩ := DataW.trod_struct hs hf
  refine ⟨cs, rfl, hsz.trans hC, fun i f hi => ?_⟩
  obtain ⟨o1, k1⟩ := Go.Deep.hone_of hone i f hi
  have h1 := hg i f hi
  have hil : i < fs.size := (Array.getElem?_eq_some_iff.1 hi).1
  have hic : i < cs.size := by rw [hsz, hC]; exact hil
  have hx1 : xs[i]? = some xs[i] := List.getElem?_eq_getElem (by omega)
  rw [o1, k1, hx1] at h1
  refine ⟨cs[i], xs[i], n, Array.getElem?_eq_getElem hic, ?_⟩
  rw [← h1]
  congr 1
  have hc : (Value.agg cs).cells.toList = cs.toList := rfl
  rw [hc]
  rw [List.drop_eq_getElem_cons (by simpa using hic)]
  simp
theorem open_stamp {H : Type} {enc : TypeId × Value → H} {W : World} {r : Reach} {b0 base : Nat} {spare : Nat → Bool} {held : Bool} {v : Value} {d : DataW H} {p : List MemPlace} (hv : Value.okWide Tryd.prog W r b0 23 v) (h : DataW.Trod enc Tryd.prog W base spare held 23 v d p) :
    ∃ t : St, v = stV t ∧ StW t := by
  obtain ⟨cs, rfl, hsz, hf⟩ := open_fields_of Tryd.underlying23 (by kernel_rfl) (by kernel_rfl) hv h
  have key : ∀ (i : Nat) (x : Value) (y : DataW H × List MemPlace) (n : Nat), cs[i]? = some x → DataW.trod enc Tryd.prog W base spare held n 3 [x] = some y → ∃ k : Int, cs[i]? = some (.int .i64 k) ∧ (Lit.int .i64 k).wf = true := by
    intro i x y n h1 h2
    obtain ⟨k, e1, _, e3⟩ := DataW.trod_int Tryd.underlying3 h2
    injection e1 with e1 _
    exact ⟨k, by rw [h1, e1], e3⟩
  obtain ⟨x0, y0, n0, p0, q0⟩ := hf 0 _ rfl
  obtain ⟨a, ha, wa⟩ := key 0 _ _ _ p0 q0
  obtain ⟨x1, y1, n1, p1, q1⟩ := hf 1 _ rfl
  obtain ⟨b, hb, wb⟩ := key 1 _ _ _ p1 q1
  obtain ⟨x2, y2, n2, p2, q2⟩ := hf 2 _ rfl
  obtain ⟨c, hc, wc⟩ := key 2 _ _ _ p2 q2
  obtain ⟨x3, y3, n3, p3, q3⟩ := hf 3 _ rfl
  obtain ⟨d1, hd, wd⟩ := key 3 _ _ _ p3 q3
  obtain ⟨x4, y4, n4, p4, q4⟩ := hf 4 _ rfl
  obtain ⟨e, he, we⟩ := key 4 _ _ _ p4 q4
  obtain ⟨x5, y5, n5, p5, q5⟩ := hf 5 _ rfl
  obtain ⟨f, hf', wf⟩ := key 5 _ _ _ p5 q5
  refine ⟨⟨a, b, c, d1, e, f⟩, ?_, ⟨wa, wb, wc, wd, we, wf⟩⟩
  unfold stV
  congr 1
  refine Array.ext_getElem? fun i => ?_
  by_cases hi : i < 6
  · have h6 : i = 0 ∨ i = 1 ∨ i = 2 ∨ i = 3 ∨ i = 4 ∨ i = 5 := by omega
    rcases h6 with rfl | rfl | rfl | rfl | rfl | rfl
    · exact ha
    · exact hb
    · exact hc
    · exact hd
    · exact he
    · exact hf'
  · rw [Array.getElem?_eq_none (by rw [hsz]; show 6 ≤ i; omega), Array.getElem?_eq_none (by show 6 ≤ i; omega)]
theorem numU16_of {a : Int} (h : (Lit.int .u16 a).wf = true) : ∃ v : Nat, v < 65536 ∧ a = (v : Int) := by
  have h1 : 0 ≤ a ∧ a < 65536 := by
    simp [Lit.wf, IntKind.min, IntKind.max, IntKind.bits, IntKind.signed] at h
    omega
  exact ⟨a.toNat, by omega, by omega⟩
end Go.Proofs.YtacllgglpjdobaaDoor
