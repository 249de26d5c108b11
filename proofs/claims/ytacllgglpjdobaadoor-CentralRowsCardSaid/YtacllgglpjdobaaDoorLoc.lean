/-
  LOCAL HEADERS: rows of cells, which are great, how many bytes they have; methods. No conditions.
-/
import Derived.Test.YtacllgglpjdobaaDoorNamF
import Derived.Test.YtacllgglpjdobaaDoorStt
import Derived.Lib.MinMax
namespace Go.Proofs.YtacllgglpjdobaaDoor
open Go.RowKit
set_option maxRecDepth 100000
set_option linter.unusedVariables false

/-- a header -/
structure Hd where
  m : Int
  t : St
  sum : Nat
  pk : Nat
  sz : Nat
  nm : List UInt8
def hdC (h : Hd) : Array Value := #[.int .i64 h.m, .int .i64 h.t.y, .int .i64 h.t.mo, .int .i64 h.t.d, .int .i64 h.t.h, .int .i64 h.t.mi, .int .i64 h.t.s, .int .u32 h.sum, .int .u64 h.pk, .int .u64 h.sz, .string (S h.nm)]
def hdV (h : Hd) : Value := .agg (hdC h)
structure HdW (h : Hd) : Prop where
  m : (Lit.int .i64 h.m).wf = true
  t : StW h.t
  sum : h.sum < 4294967296
  pk : h.pk < two64
  sz : h.sz < two64
/-- do its numbers not fit? -/
def grt (h : Hd) : Bool := decide (4294967295 ≤ h.pk ∨ 4294967295 ≤ h.sz)
/-- what a method's check answers -/
def mthE (m : Int) : Int := if m = 0 ∨ m = 8 then 0 else 43
theorem isGreat_c (h : Hd) (w : World) : Calls Tryd.prog 36 #[hdV h] w fun e w' => e = .returned (.bool (grt h)) ∧ Below w.heap.size w w' := by
  obtain ⟨m, ⟨y, mo, d, hh, mi, s⟩, sum, p, z, nm⟩ := h
  unfold hdV hdC grt
  dsimp only
  have HB := Lib.hid ((Below.refl w.heap.size w).alloc (Nat.le_refl _) (.cells #[.int .i64 m, .int .i64 y, .int .i64 mo, .int .i64 d, .int .i64 hh, .int .i64 mi, .int .i64 s, .int .u32 sum, .int .u64 p, .int .u64 z, .string (S nm)] 27))
  by_cases h1 : 4294967295 ≤ p
  · have i1 : (4294967295 : Int) ≤ (p : Int) := by omega
    have e1 : decide (4294967295 ≤ p ∨ 4294967295 ≤ z) = true := decide_eq_true (.inl h1)
    rw [e1]
    clear h1 e1
    go_enter Tryd.func36, Tryd.ntmps36
    go_wp2
    go_ret
    exact ⟨rfl, HB.out⟩
  · have i1 : ¬ (4294967295 : Int) ≤ (p : Int) := by omega
    by_cases h2 : 4294967295 ≤ z
    · have i2 : (4294967295 : Int) ≤ (z : Int) := by omega
      have e1 : decide (4294967295 ≤ p ∨ 4294967295 ≤ z) = true := decide_eq_true (.inr h2)
      rw [e1]
      clear h1 h2 e1
      go_enter Tryd.func36, Tryd.ntmps36
      go_wp2
      go_ret
      exact ⟨rfl, HB.out⟩
    · have i2 : ¬ (4294967295 : Int) ≤ (z : Int) := by omega
      have e1 : decide (4294967295 ≤ p ∨ 4294967295 ≤ z) = false := decide_eq_false (by omega)
      rw [e1]
      clear h1 h2 e1
      go_enter Tryd.func36, Tryd.ntmps36
      go_wp2
      go_ret
      exact ⟨rfl, HB.out⟩
end Go.Proofs.YtacllgglpjdobaaDoor
