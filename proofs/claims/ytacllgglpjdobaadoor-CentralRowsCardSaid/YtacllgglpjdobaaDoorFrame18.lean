/-
  WHAT THE LISTED TABLES GIVE THE WALKS OF LAW 18: how many days months have lies in block 0; a header that comes in. No conditions.
-/
import Derived.Test.YtacllgglpjdobaaDoorLoc
import Derived.Test.YtacllgglpjdobaaDoorFrame17
import Derived.Lay
namespace Go.Proofs.YtacllgglpjdobaaDoor
open Go.ChangeShapes Go.WideShapes Go.ChangeAt Go.RowKit
set_option maxRecDepth 100000
set_option linter.unusedVariables false

def laid18 : List (String × DataW Unit) := [("footlocker/stamp.monthDays", Rows.laid_footlocker_stamp_monthDays), ("unicode/utf8.acceptRanges", Rows.laid_unicode_utf8_acceptRanges), ("unicode/utf8.first", Rows.laid_unicode_utf8_first)]
theorem tabm18_of {W : World} (h : laidMetH Tryd.prog laid18 W) : TabM W := by
  rw [MakeChecks.laidMetH_plain _ _ _ (by kernel_rfl)] at h
  obtain ⟨ps, ⟨g0, t0, cs0, f0, p0, q0, hg0, ht0, hv0, hd0, _, _⟩, _⟩ := h
  obtain rfl := Option.some.inj ((show Tryd.prog.globalNamed "footlocker/stamp.monthDays" = some 0 by kernel_rfl).symm.trans hg0)
  obtain rfl := Option.some.inj ((show (Tryd.prog.globals[0]?).map (·.type) = some 112 by kernel_rfl).symm.trans ht0)
  have a1 := mints_at (T := mdT) Tryd.underlying112 hg0 hv0 hd0 rfl
  exact ⟨World.block_lt_of_cell? W ⟨0, 0, none⟩ (a1 0 (by omega)), a1⟩
theorem stamp_of {H : Type} {enc : TypeId × Value → H} {W : World} {base : Nat} {spare : Nat → Bool} {held : Bool} {n : Nat} {a b c d e f : Value} {y : DataW H × List MemPlace} (h : DataW.trod enc Tryd.prog W base spare held n 23 [a, b, c, d, e, f] = some y) :
    ∃ t : St, a = .int .i64 t.y ∧ b = .int .i64 t.mo ∧ c = .int .i64 t.d ∧ d = .int .i64 t.h ∧ e = .int .i64 t.mi ∧ f = .int .i64 t.s ∧ StW t := by
  have c1 : Tryd.prog.cellsOf 3 = 1 := by kernel_rfl
  obtain ⟨xs, m, _, _, hlen, hxl, hg⟩ := DataW.trod_struct Tryd.underlying23 h
  have key : ∀ (x : Value) (z : Option (DataW H × List MemPlace)) (k : Nat), DataW.trod enc Tryd.prog W base spare held k 3 [x] = z → z.isSome = true → ∃ q : Int, x = .int .i64 q ∧ (Lit.int .i64 q).wf = true := by
    intro x z k h1 h2
    obtain ⟨z', rfl⟩ := Option.isSome_iff_exists.1 h2
    obtain ⟨q, e1, _, e3⟩ := DataW.trod_int Tryd.underlying3 h1
    injection e1 with e1 _
    exact ⟨q, e1, e3⟩
  have hx : ∀ i, i < 6 → (xs[i]?).isSome = true := fun i hi => by
    rw [List.getElem?_eq_getElem (by rw [hxl]; exact hi)]
    rfl
  have g0 : DataW.trod enc Tryd.prog W base spare held m 3 (List.take (Tryd.prog.cellsOf 3) (List.drop 0 [a, b, c, d, e, f])) = xs[0]? := hg 0 _ rfl
  have g1 : DataW.trod enc Tryd.prog W base spare held m 3 (List.take (Tryd.prog.cellsOf 3) (List.drop 1 [a, b, c, d, e, f])) = xs[1]? := hg 1 _ rfl
  have g2 : DataW.trod enc Tryd.prog W base spare held m 3 (List.take (Tryd.prog.cellsOf 3) (List.drop 2 [a, b, c, d, e, f])) = xs[2]? := hg 2 _ rfl
  have g3 : DataW.trod enc Tryd.prog W base spare held m 3 (List.take (Tryd.prog.cellsOf 3) (List.drop 3 [a, b, c, d, e, f])) = xs[3]? := hg 3 _ rfl
  have g4 : DataW.trod enc Tryd.prog W base spare held m 3 (List.take (Tryd.prog.cellsOf 3) (List.drop 4 [a, b, c, d, e, f])) = xs[4]? := hg 4 _ rfl
  have g5 : DataW.trod enc Tryd.prog W base spare held m 3 (List.take (Tryd.prog.cellsOf 3) (List.drop 5 [a, b, c, d, e, f])) = xs[5]? := hg 5 _ rfl
  rw [c1] at g0 g1 g2 g3 g4 g5
  obtain ⟨q0, rfl, w0⟩ := key _ _ _ g0 (hx 0 (by omega))
  obtain ⟨q1, rfl, w1⟩ := key _ _ _ g1 (hx 1 (by omega))
  obtain ⟨q2, rfl, w2⟩ := key _ _ _ g2 (hx 2 (by omega))
  obtain ⟨q3, rfl, w3⟩ := key _ _ _ g3 (hx 3 (by omega))
  obtain ⟨q4, rfl, w4⟩ := key _ _ _ g4 (hx 4 (by omega))
  obtain ⟨q5, rfl, w5⟩ := key _ _ _ g5 (hx 5 (by omega))
  exact ⟨⟨q0, q1, q2, q3, q4, q5⟩, rfl, rfl, rfl, rfl, rfl, rfl, ⟨w0, w1, w2, w3, w4, w5⟩⟩
theorem header_of {H : Type} {enc : TypeId × Value → H} {W : World} {base : Nat} {spare : Nat → Bool} {held : Bool} {fuel : Nat} {l : List Value} {y : DataW H × List MemPlace} (hsz : l.length = 11) (hf : DataW.trod enc Tryd.prog W base spare held fuel 27 l = some y) :
    ∃ h : Hd, l = (hdC h).toList ∧ HdW h ∧ h.nm.length ≤ maxLen := by
  obtain ⟨xs, n, _, hx, hlen, hxl, hg⟩ := DataW.trod_struct Tryd.underlying27 hf
  have c1 : Tryd.prog.cellsOf 3 = 1 := by kernel_rfl
  have c2 : Tryd.prog.cellsOf 23 = 6 := by kernel_rfl
  have c3 : Tryd.prog.cellsOf 24 = 1 := by kernel_rfl
  have c4 : Tryd.prog.cellsOf 25 = 1 := by kernel_rfl
  have c5 : Tryd.prog.cellsOf 9 = 1 := by kernel_rfl
  have hxs : ∀ i, i < 6 → ∃ z, xs[i]? = some z := fun i hi => ⟨_, List.getElem?_eq_getElem (by rw [hxl]; exact hi)⟩
  obtain ⟨z0, x0⟩ := hxs 0 (by omega)
  obtain ⟨z1, x1⟩ := hxs 1 (by omega)
  obtain ⟨z2, x2⟩ := hxs 2 (by omega)
  obtain ⟨z3, x3⟩ := hxs 3 (by omega)
  obtain ⟨z4, x4⟩ := hxs 4 (by omega)
  obtain ⟨z5, x5⟩ := hxs 5 (by omega)
  have g0 : DataW.trod enc Tryd.prog W base spare held n 3 (List.take (Tryd.prog.cellsOf 3) (List.drop 0 l)) = some z0 := (hg 0 _ rfl).trans x0
  have g1 : DataW.trod enc Tryd.prog W base spare held n 23 (List.take (Tryd.prog.cellsOf 23) (List.drop 1 l)) = some z1 := (hg 1 _ rfl).trans x1
  have g2 : DataW.trod enc Tryd.prog W base spare held n 24 (List.take (Tryd.prog.cellsOf 24) (List.drop 7 l)) = some z2 := (hg 2 _ rfl).trans x2
  have g3 : DataW.trod enc Tryd.prog W base spare held n 25 (List.take (Tryd.prog.cellsOf 25) (List.drop 8 l)) = some z3 := (hg 3 _ rfl).trans x3
  have g4 : DataW.trod enc Tryd.prog W base spare held n 25 (List.take (Tryd.prog.cellsOf 25) (List.drop 9 l)) = some z4 := (hg 4 _ rfl).trans x4
  have g5 : DataW.trod enc Tryd.prog W base spare held n 9 (List.take (Tryd.prog.cellsOf 9) (List.drop 10 l)) = some z5 := (hg 5 _ rfl).trans x5
  rw [c1] at g0
  rw [c2] at g1
  rw [c3] at g2
  rw [c4] at g3 g4
  rw [c5] at g5
  match l, hsz with
  | [v0, v1, v2, v3, v4, v5, v6, v7, v8, v9, v10], _ =>
    obtain ⟨q0, e0, _, w0⟩ := DataW.trod_int Tryd.underlying3 g0
    obtain ⟨t, e1, e2, e3, e4, e5, e6, wt⟩ := stamp_of g1
    obtain ⟨q7, e7, _, w7⟩ := DataW.trod_int Tryd.underlying24 g2
    obtain ⟨q8, e8, _, w8⟩ := DataW.trod_int Tryd.underlying25 g3
    obtain ⟨q9, e9, _, w9⟩ := DataW.trod_int Tryd.underlying25 g4
    obtain ⟨s, e10, _, ws⟩ := DataW.trod_string Tryd.underlying9 g5
    injection e0 with e0 _
    injection e7 with e7 _
    injection e8 with e8 _
    injection e9 with e9 _
    injection e10 with e10 _
    obtain ⟨k7, hk7, rfl⟩ := num32_of w7
    obtain ⟨k8, hk8, rfl⟩ := num64_of w8
    obtain ⟨k9, hk9, rfl⟩ := num64_of w9
    subst e0 e1 e2 e3 e4 e5 e6 e7 e8 e9 e10
    refine ⟨⟨q0, t, k7, k8, k9, s.data.toList⟩, ?_, ⟨w0, wt, hk7, hk8, hk9⟩, ws⟩
    unfold hdC
    dsimp only
    rw [S_of]
theorem open_header {H : Type} {enc : TypeId × Value → H} {W : World} {r : Reach} {b0 base : Nat} {spare : Nat → Bool} {held : Bool} {v : Value} {d : DataW H} {p : List MemPlace} (hv : Value.okWide Tryd.prog W r b0 27 v) (h : DataW.Trod enc Tryd.prog W base spare held 27 v d p) :
    ∃ h : Hd, v = hdV h ∧ HdW h ∧ h.nm.length ≤ maxLen := by
  obtain ⟨cs, rfl, hsz⟩ := okWide_struct Tryd.underlying27 hv
  obtain ⟨fuel, hf⟩ := h
  have h11 : cs.size = 11 := hsz.trans (by kernel_rfl)
  obtain ⟨h, e, hw, hl⟩ := header_of (l := cs.toList) (by simpa using h11) hf
  refine ⟨h, ?_, hw, hl⟩
  unfold hdV
  congr 1
  exact Array.ext' e
end Go.Proofs.YtacllgglpjdobaaDoor
