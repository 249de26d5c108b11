/-
  A TAIL THAT COMES IN. No conditions.
-/
import Derived.Test.YthpgeehfmblbhaaTlb
import Derived.Test.YthpgeehfmblbhaaBase
import Derived.Deep.Fields
namespace Go.Proofs.Ythpgeehfmblbhaa
open Go.ChangeShapes Go.WideShapes Go.ChangeAt Go.RowKit
set_option maxRecDepth 100000
set_option linter.unusedVariables false

/-- a struct of fields of one cell each that comes in -/
theorem open_fields_of {H : Type} {enc : TypeId × Value → H} {W : World} {r : Reach} {b0 base : Nat} {spare : Nat → Bool} {held : Bool} {t : TypeId} {fs : Array Field} {v : Value} {d : DataW H} {p : List MemPlace} (hs : Try.prog.underlying t = some (.struct fs))
    (hone : Go.Deep.oneCellFields Try.prog fs = true) (hC : Try.prog.cellsOf t = fs.size) (hv : Value.okWide Try.prog W r b0 t v) (h : DataW.Trod enc Try.prog W base spare held t v d p) :
    ∃ cs : Array Value, v = .agg cs ∧ cs.size = fs.size ∧ ∀ (i : Nat) (f : Field), fs[i]? = some f → ∃ (x : Value) (y : DataW H × List MemPlace) (n : Nat), cs[i]? = some x ∧ DataW.trod enc Try.prog W base spare held n f.type [x] = some y := by
  obtain ⟨cs, rfl, hsz⟩ := okWide_struct hs hv
  obtain ⟨fuel, hf⟩ := h
  obtain ⟨xs, n, _, hx, hlen, hxl, hg⟩ := DataW.trod_struct hs hf
  refine ⟨cs, rfl, hsz.trans hC, fun i f hi => ?_⟩
  obtain ⟨o1, k1⟩ := Go.Deep.hone_of hone i f hi
  have h1 := hg i f hi
  have hil : i < fs.size := (Array.getElem?_eq_some_iff.1 hi).1
  have hic : i < cs.size := by rw [hsz, hC]; exact hil
  have hx1 : xs[i]? = some xs[i] := List.getElem?_eq_getElem (by omega)
  rw [o1, k1, hx1] at h1
  refine ⟨cs[i], xs[i], n, Array.getElem?_eq_getElem hic, ?_⟩
  rw [← h1]
  congr 1
  have hc : (Value.agg cs).cells.toList = cs.toList := rfl
  rw [hc]
  rw [List.drop_eq_getElem_cons (by simpa using hic)]
  simp
theorem open_tail {H : Type} {enc : TypeId × Value → H} {W : World} {r : Reach} {b0 base : Nat} {spare : Nat → Bool} {held : Bool} {v : Value} {d : DataW H} {p : List MemPlace} (hv : Value.okWide Try.prog W r b0 25 v) (h : DataW.Trod enc Try.prog W base spare held 25 v d p) :
    ∃ t : Tl, v = tlV t ∧ TlW t := by
  obtain ⟨cs, rfl, hsz, hf⟩ := open_fields_of Try.underlying25 (by kernel_rfl) (by kernel_rfl) hv h
  obtain ⟨x0, y0, n0, p0, q0⟩ := hf 0 _ rfl
  obtain ⟨a0, e0, _, w0⟩ := DataW.trod_int Try.underlying22 q0
  injection e0 with e0 _
  obtain ⟨k0, l0, rfl⟩ := num32_of w0
  rw [e0] at p0
  obtain ⟨x1, y1, n1, p1, q1⟩ := hf 1 _ rfl
  obtain ⟨a1, e1, _, w1⟩ := DataW.trod_int Try.underlying22 q1
  injection e1 with e1 _
  obtain ⟨k1, l1, rfl⟩ := num32_of w1
  rw [e1] at p1
  obtain ⟨x2, y2, n2, p2, q2⟩ := hf 2 _ rfl
  obtain ⟨a2, e2, _, w2⟩ := DataW.trod_int Try.underlying23 q2
  injection e2 with e2 _
  obtain ⟨k2, l2, rfl⟩ := num64_of w2
  rw [e2] at p2
  obtain ⟨x3, y3, n3, p3, q3⟩ := hf 3 _ rfl
  obtain ⟨a3, e3, _, w3⟩ := DataW.trod_int Try.underlying23 q3
  injection e3 with e3 _
  obtain ⟨k3, l3, rfl⟩ := num64_of w3
  rw [e3] at p3
  obtain ⟨x4, y4, n4, p4, q4⟩ := hf 4 _ rfl
  obtain ⟨a4, e4, _, w4⟩ := DataW.trod_int Try.underlying23 q4
  injection e4 with e4 _
  obtain ⟨k4, l4, rfl⟩ := num64_of w4
  rw [e4] at p4
  obtain ⟨x5, y5, n5, p5, q5⟩ := hf 5 _ rfl
  obtain ⟨a5, e5, _, w5⟩ := DataW.trod_int Try.underlying23 q5
  injection e5 with e5 _
  obtain ⟨k5, l5, rfl⟩ := num64_of w5
  rw [e5] at p5
  obtain ⟨x6, y6, n6, p6, q6⟩ := hf 6 _ rfl
  obtain ⟨a6, e6, _, w6⟩ := DataW.trod_int Try.underlying22 q6
  injection e6 with e6 _
  obtain ⟨k6, l6, rfl⟩ := num32_of w6
  rw [e6] at p6
  obtain ⟨x7, y7, n7, p7, q7⟩ := hf 7 _ rfl
  obtain ⟨a7, e7, _, w7⟩ := DataW.trod_int Try.underlying22 q7
  injection e7 with e7 _
  obtain ⟨k7, l7, rfl⟩ := num32_of w7
  rw [e7] at p7
  obtain ⟨x8, y8, n8, p8, q8⟩ := hf 8 _ rfl
  obtain ⟨a8, e8, _, w8⟩ := DataW.trod_int Try.underlying23 q8
  injection e8 with e8 _
  obtain ⟨k8, l8, rfl⟩ := num64_of w8
  rw [e8] at p8
  refine ⟨⟨k0, k1, k2, k3, k4, k5, k6, k7, k8⟩, ?_, ⟨l0, l1, l2, l3, l4, l5, l6, l7, l8⟩⟩
  unfold tlV tlC
  congr 1
  refine Array.ext_getElem? fun i => ?_
  by_cases hi : i < 9
  · have h9 : i = 0 ∨ i = 1 ∨ i = 2 ∨ i = 3 ∨ i = 4 ∨ i = 5 ∨ i = 6 ∨ i = 7 ∨ i = 8 := by omega
    rcases h9 with rfl | rfl | rfl | rfl | rfl | rfl | rfl | rfl | rfl
    · exact p0
    · exact p1
    · exact p2
    · exact p3
    · exact p4
    · exact p5
    · exact p6
    · exact p7
    · exact p8
  · rw [Array.getElem?_eq_none (by rw [hsz]; show 9 ≤ i; omega), Array.getElem?_eq_none (by show 9 ≤ i; omega)]
end Go.Proofs.Ythpgeehfmblbhaa
