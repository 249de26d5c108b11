/-
  A SEAL THAT COMES IN. No conditions.
-/
import Derived.Test.YtbgdoemealddpaaDoorSla
import Derived.Test.YtbgdoemealddpaaDoorBase
import Derived.Deep.Fields
import Derived.Deep.Matrix
namespace Go.Proofs.YtbgdoemealddpaaDoor
open Go.ChangeShapes Go.WideShapes Go.ChangeAt Go.RowKit
set_option maxRecDepth 100000
set_option linter.unusedVariables false

theorem geo_of {H : Type} {enc : TypeId × Value → H} {W : World} {base : Nat} {spare : Nat → Bool} {held : Bool} {n : Nat} {a b c d : Value} {y : DataW H × List MemPlace} (h : DataW.trod enc Tryd.prog W base spare held n 23 [a, b, c, d] = some y) :
    ∃ N K S B : Int, a = .int .i64 N ∧ b = .int .i64 K ∧ c = .int .i64 S ∧ d = .int .i64 B ∧ Wf4 N K S B := by
  have c1 : Tryd.prog.cellsOf 3 = 1 := by kernel_rfl
  obtain ⟨xs, m, _, _, hlen, hxl, hg⟩ := DataW.trod_struct Tryd.underlying23 h
  have key : ∀ (x : Value) (z : Option (DataW H × List MemPlace)) (k : Nat), DataW.trod enc Tryd.prog W base spare held k 3 [x] = z → z.isSome = true → ∃ q : Int, x = .int .i64 q ∧ (Lit.int .i64 q).wf = true := by
    intro x z k h1 h2
    obtain ⟨z', rfl⟩ := Option.isSome_iff_exists.1 h2
    obtain ⟨q, e1, _, e3⟩ := DataW.trod_int Tryd.underlying3 h1
    injection e1 with e1 _
    exact ⟨q, e1, e3⟩
  have hx : ∀ i, i < 4 → (xs[i]?).isSome = true := fun i hi => by
    rw [List.getElem?_eq_getElem (by rw [hxl]; exact hi)]
    rfl
  have g0 : DataW.trod enc Tryd.prog W base spare held m 3 (List.take (Tryd.prog.cellsOf 3) (List.drop 0 [a, b, c, d])) = xs[0]? := hg 0 _ rfl
  have g1 : DataW.trod enc Tryd.prog W base spare held m 3 (List.take (Tryd.prog.cellsOf 3) (List.drop 1 [a, b, c, d])) = xs[1]? := hg 1 _ rfl
  have g2 : DataW.trod enc Tryd.prog W base spare held m 3 (List.take (Tryd.prog.cellsOf 3) (List.drop 2 [a, b, c, d])) = xs[2]? := hg 2 _ rfl
  have g3 : DataW.trod enc Tryd.prog W base spare held m 3 (List.take (Tryd.prog.cellsOf 3) (List.drop 3 [a, b, c, d])) = xs[3]? := hg 3 _ rfl
  rw [c1] at g0 g1 g2 g3
  obtain ⟨q0, rfl, w0⟩ := key _ _ _ g0 (hx 0 (by omega))
  obtain ⟨q1, rfl, w1⟩ := key _ _ _ g1 (hx 1 (by omega))
  obtain ⟨q2, rfl, w2⟩ := key _ _ _ g2 (hx 2 (by omega))
  obtain ⟨q3, rfl, w3⟩ := key _ _ _ g3 (hx 3 (by omega))
  exact ⟨q0, q1, q2, q3, rfl, rfl, rfl, rfl, ⟨w0, w1, w2, w3⟩⟩
theorem open_seal {H : Type} {enc : TypeId × Value → H} {W : World} {r : Reach} {b0 base : Nat} {held : Bool} {v : Value} {d : DataW H} {p : List MemPlace} (hv : Value.okWide Tryd.prog W r b0 26 v) (h : DataW.Trod enc Tryd.prog W base (fun _ => true) held 26 v d p) :
    ∃ (N K S B I : Int) (A : Option Addr) (n cap : Nat), v = .agg #[.int .i64 N, .int .i64 K, .int .i64 S, .int .i64 B, .int .i64 I, .slice A n cap] ∧ Wf4 N K S B ∧ (Lit.int .i64 I).wf = true ∧ ∃ RA RL RC R, GIn W A n cap RA RL RC R := by
  obtain ⟨cs, rfl, hsz⟩ := okWide_struct Tryd.underlying26 hv
  obtain ⟨fuel, hf⟩ := h
  have h6 : cs.size = 6 := hsz.trans (by kernel_rfl)
  have hf' : DataW.trod enc Tryd.prog W base (fun _ => true) held fuel 26 cs.toList = some (d, p) := hf
  obtain ⟨l, hl⟩ : ∃ l, l = cs.toList := ⟨_, rfl⟩
  rw [← hl] at hf'
  have hll : l.length = 6 := by rw [hl]; simpa using h6
  obtain ⟨xs, n, _, hx, hlen, hxl, hg⟩ := DataW.trod_struct Tryd.underlying26 hf'
  have c1 : Tryd.prog.cellsOf 3 = 1 := by kernel_rfl
  have c2 : Tryd.prog.cellsOf 23 = 4 := by kernel_rfl
  have c3 : Tryd.prog.cellsOf 24 = 1 := by kernel_rfl
  have hxs : ∀ i, i < 3 → ∃ z, xs[i]? = some z := fun i hi => ⟨_, List.getElem?_eq_getElem (by rw [hxl]; exact hi)⟩
  obtain ⟨z0, x0⟩ := hxs 0 (by omega)
  obtain ⟨z1, x1⟩ := hxs 1 (by omega)
  obtain ⟨z2, x2⟩ := hxs 2 (by omega)
  have g0 : DataW.trod enc Tryd.prog W base (fun _ => true) held n 23 (List.take (Tryd.prog.cellsOf 23) (List.drop 0 l)) = some z0 := (hg 0 _ rfl).trans x0
  have g1 : DataW.trod enc Tryd.prog W base (fun _ => true) held n 3 (List.take (Tryd.prog.cellsOf 3) (List.drop 4 l)) = some z1 := (hg 1 _ rfl).trans x1
  have g2 : DataW.trod enc Tryd.prog W base (fun _ => true) held n 24 (List.take (Tryd.prog.cellsOf 24) (List.drop 5 l)) = some z2 := (hg 2 _ rfl).trans x2
  rw [c2] at g0
  rw [c1] at g1
  rw [c3] at g2
  match l, hll with
  | [v0, v1, v2, v3, v4, v5], _ =>
    obtain ⟨N, K, S, B, rfl, rfl, rfl, rfl, hw⟩ := geo_of g0
    obtain ⟨q4, e4, _, w4⟩ := DataW.trod_int Tryd.underlying3 g1
    injection e4 with e4 _
    subst e4
    have hc : cs = #[.int .i64 N, .int .i64 K, .int .i64 S, .int .i64 B, .int .i64 q4, v5] := Array.ext' hl.symm
    rcases Go.Deep.open_int_rows Tryd.underlying24 Tryd.underlying56 Tryd.underlying54 (by kernel_rfl) (by kernel_rfl) (cs := [v5]) g2 with ⟨hcs, _⟩ | ⟨x, len, cap, RA, RL, RC, Z, hcs, _, hl1, hm1, _, hrow⟩
    · injection hcs with hcs _
      subst hcs
      exact ⟨N, K, S, B, q4, none, 0, 0, by rw [hc], hw, w4, fun _ => none, fun _ => 0, fun _ => 0, fun _ => [], GIn.nil W⟩
    · injection hcs with hcs _
      subst hcs
      exact ⟨N, K, S, B, q4, some x, len, cap, by rw [hc], hw, w4, GIn.ofCells hl1 hm1 (fun r hr => by
        obtain ⟨h1, h2, h3, h4, h5, h6, h7⟩ := hrow r hr
        exact ⟨h1, h2, h3, h4, h5, h6, fun a' e => ⟨Nat.zero_le _, (h7 a' e).2⟩⟩)⟩
end Go.Proofs.YtbgdoemealddpaaDoor
