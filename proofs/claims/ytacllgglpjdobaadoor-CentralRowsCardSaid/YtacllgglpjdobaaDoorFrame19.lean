/-
  WHAT COMES IN, IN LAW 19: a record. No conditions.
-/
import Derived.Test.YtacllgglpjdobaaDoorCnb
import Derived.Test.YtacllgglpjdobaaDoorFrame18
namespace Go.Proofs.YtacllgglpjdobaaDoor
open Go.ChangeShapes Go.WideShapes Go.ChangeAt Go.RowKit
set_option maxRecDepth 100000
set_option linter.unusedVariables false

theorem record_of {H : Type} {enc : TypeId × Value → H} {W : World} {base : Nat} {spare : Nat → Bool} {held : Bool} {fuel : Nat} {l : List Value} {y : DataW H × List MemPlace} (hsz : l.length = 13) (hf : DataW.trod enc Tryd.prog W base spare held fuel 29 l = some y) :
    ∃ c : Rc, l = (rcC c).toList ∧ RcW c ∧ c.h.nm.length ≤ maxLen := by
  obtain ⟨xs, n, _, hx, hlen, hxl, hg⟩ := DataW.trod_struct Tryd.underlying29 hf
  have c1 : Tryd.prog.cellsOf 27 = 11 := by kernel_rfl
  have c2 : Tryd.prog.cellsOf 24 = 1 := by kernel_rfl
  have c3 : Tryd.prog.cellsOf 25 = 1 := by kernel_rfl
  have hxs : ∀ i, i < 3 → ∃ z, xs[i]? = some z := fun i hi => ⟨_, List.getElem?_eq_getElem (by rw [hxl]; exact hi)⟩
  obtain ⟨z0, x0⟩ := hxs 0 (by omega)
  obtain ⟨z1, x1⟩ := hxs 1 (by omega)
  obtain ⟨z2, x2⟩ := hxs 2 (by omega)
  have g0 : DataW.trod enc Tryd.prog W base spare held n 27 (List.take (Tryd.prog.cellsOf 27) (List.drop 0 l)) = some z0 := (hg 0 _ rfl).trans x0
  have g1 : DataW.trod enc Tryd.prog W base spare held n 24 (List.take (Tryd.prog.cellsOf 24) (List.drop 11 l)) = some z1 := (hg 1 _ rfl).trans x1
  have g2 : DataW.trod enc Tryd.prog W base spare held n 25 (List.take (Tryd.prog.cellsOf 25) (List.drop 12 l)) = some z2 := (hg 2 _ rfl).trans x2
  rw [c1] at g0
  rw [c2] at g1
  rw [c3] at g2
  match l, hsz with
  | [v0, v1, v2, v3, v4, v5, v6, v7, v8, v9, v10, v11, v12], _ =>
    obtain ⟨h, e0, wh, lh⟩ := header_of (l := [v0, v1, v2, v3, v4, v5, v6, v7, v8, v9, v10]) rfl g0
    obtain ⟨q11, e11, _, w11⟩ := DataW.trod_int Tryd.underlying24 g1
    obtain ⟨q12, e12, _, w12⟩ := DataW.trod_int Tryd.underlying25 g2
    injection e11 with e11 _
    injection e12 with e12 _
    obtain ⟨k11, hk11, rfl⟩ := num32_of w11
    obtain ⟨k12, hk12, rfl⟩ := num64_of w12
    subst e11 e12
    refine ⟨⟨h, k11, k12⟩, ?_, ⟨wh, hk11, hk12⟩, lh⟩
    have e1 : [v0, v1, v2, v3, v4, v5, v6, v7, v8, v9, v10, Value.int .u32 (k11 : Nat), Value.int .u64 (k12 : Nat)] = [v0, v1, v2, v3, v4, v5, v6, v7, v8, v9, v10] ++ [Value.int .u32 (k11 : Nat), Value.int .u64 (k12 : Nat)] := rfl
    rw [e1, e0]
    rfl
theorem open_record {H : Type} {enc : TypeId × Value → H} {W : World} {r : Reach} {b0 base : Nat} {spare : Nat → Bool} {held : Bool} {v : Value} {d : DataW H} {p : List MemPlace} (hv : Value.okWide Tryd.prog W r b0 29 v) (h : DataW.Trod enc Tryd.prog W base spare held 29 v d p) :
    ∃ c : Rc, v = rcV c ∧ RcW c ∧ c.h.nm.length ≤ maxLen := by
  obtain ⟨cs, rfl, hsz⟩ := okWide_struct Tryd.underlying29 hv
  obtain ⟨fuel, hf⟩ := h
  have h13 : cs.size = 13 := hsz.trans (by kernel_rfl)
  obtain ⟨c, e, hw, hl⟩ := record_of (l := cs.toList) (by simpa using h13) hf
  refine ⟨c, ?_, hw, hl⟩
  unfold rcV
  congr 1
  exact Array.ext' e
end Go.Proofs.YtacllgglpjdobaaDoor
