/-
  A GEOMETRY THAT COMES IN. No conditions.
-/
import Derived.Test.YtbmkcnlcffnjgaaSra
import Derived.Test.YtbmkcnlcffnjgaaBase
import Derived.Deep.Fields
namespace Go.Proofs.Ytbmkcnlcffnjgaa
open Go.ChangeShapes Go.WideShapes Go.ChangeAt Go.RowKit
set_option maxRecDepth 100000
set_option linter.unusedVariables false

/-- a struct of fields of one cell each that comes in -/
theorem open_fields_of {H : Type} {enc : TypeId × Value → H} {W : World} {r : Reach} {b0 base : Nat} {spare : Nat → Bool} {held : Bool} {t : TypeId} {fs : Array Field} {v : Value} {d : DataW H} {p : List MemPlace} (hs : Try.prog.underlying t = some (.struct fs))
    (hone : Go.Deep.oneCellFields Try.prog fs = true) (hC : Try.prog.cellsOf t = fs.size) (hv : Value.okWide Try.prog W r b0 t v) (h : DataW.Trod enc Try.prog W base spare held t v d p) :
    ∃ cs : Array Value, v = .agg cs ∧ cs.size = fs.size ∧ ∀ (i : Nat) (f : Field), fs[i]? = some f → ∃ (x : Value) (y : DataW H × List MemPlace) (n : Nat), cs[i]? = some x ∧ DataW.trod enc Try.prog W base spare held n f.type [x] = some y := by
  obtain ⟨cs, rfl, hsz⟩ := okWide_struct hs hv
  obtain ⟨fuel, hf⟩ := h
  obtain ⟨xs, n, _, hx, hlen, hxl, hg⟩ := DataW.trod_struct hs hf
  refine ⟨cs, rfl, hsz.trans hC, fun i f hi => ?_⟩
  obtain ⟨o1, k1⟩ := Go.Deep.hone_of hone i f hi
  have h1 := hg i f hi
  have hil : i < fs.size := (Array.getElem?_eq_some_iff.1 hi).1
  have hic : i < cs.size := by rw [hsz, hC]; exact hil
  have hx1 : xs[i]? = some xs[i] := List.getElem?_eq_getElem (by omega)
  rw [o1, k1, hx1] at h1
  refine ⟨cs[i], xs[i], n, Array.getElem?_eq_getElem hic, ?_⟩
  rw [← h1]
  congr 1
  have hc : (Value.agg cs).cells.toList = cs.toList := rfl
  rw [hc]
  rw [List.drop_eq_getElem_cons (by simpa using hic)]
  simp
theorem open_geo {H : Type} {enc : TypeId × Value → H} {W : World} {r : Reach} {b0 base : Nat} {spare : Nat → Bool} {held : Bool} {v : Value} {d : DataW H} {p : List MemPlace} (hv : Value.okWide Try.prog W r b0 24 v) (h : DataW.Trod enc Try.prog W base spare held 24 v d p) :
    ∃ N K S B : Int, v = .agg #[.int .i64 N, .int .i64 K, .int .i64 S, .int .i64 B] ∧ Wf4 N K S B := by
  obtain ⟨cs, rfl, hsz, hf⟩ := open_fields_of Try.underlying24 (by kernel_rfl) (by kernel_rfl) hv h
  obtain ⟨x0, y0, n0, p0, q0⟩ := hf 0 _ rfl
  obtain ⟨a0, e0, _, w0⟩ := DataW.trod_int Try.underlying3 q0
  injection e0 with e0 _
  rw [e0] at p0
  obtain ⟨x1, y1, n1, p1, q1⟩ := hf 1 _ rfl
  obtain ⟨a1, e1, _, w1⟩ := DataW.trod_int Try.underlying3 q1
  injection e1 with e1 _
  rw [e1] at p1
  obtain ⟨x2, y2, n2, p2, q2⟩ := hf 2 _ rfl
  obtain ⟨a2, e2, _, w2⟩ := DataW.trod_int Try.underlying3 q2
  injection e2 with e2 _
  rw [e2] at p2
  obtain ⟨x3, y3, n3, p3, q3⟩ := hf 3 _ rfl
  obtain ⟨a3, e3, _, w3⟩ := DataW.trod_int Try.underlying3 q3
  injection e3 with e3 _
  rw [e3] at p3
  refine ⟨a0, a1, a2, a3, ?_, ⟨w0, w1, w2, w3⟩⟩
  congr 1
  refine Array.ext_getElem? fun i => ?_
  by_cases hi : i < 4
  · have h9 : i = 0 ∨ i = 1 ∨ i = 2 ∨ i = 3 := by omega
    rcases h9 with rfl | rfl | rfl | rfl
    · exact p0
    · exact p1
    · exact p2
    · exact p3
  · rw [Array.getElem?_eq_none (by rw [hsz]; show 4 ≤ i; omega), Array.getElem?_eq_none (by show 4 ≤ i; omega)]
end Go.Proofs.Ytbmkcnlcffnjgaa
