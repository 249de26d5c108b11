/-
  LAW 09: LengthsTurned, the whole: of nil, and of what is drawn. No conditions.
-/
import Derived.Test.YtfnjjeopojdnjaaLaw09f
import Derived.WideShapes
namespace Go.Proofs.Ytfnjjeopojdnjaa
open Go.RowKit
set_option maxRecDepth 100000
set_option linter.unusedVariables false

/-- What 'okWide' says of a slice: it is nil, or it has an address of a block and no spot; and it is no longer than its room. -/
theorem okWide_room {P : Program} {w : World} {r : Reach} {base : Nat} {t e : TypeId} {A : Option Addr} {n ca : Nat} (ht : P.underlying t = some (.slice e)) (h : Value.okWide P w r base t (.slice A n ca)) :
    n ≤ ca ∧ ((A = none ∧ n = 0 ∧ ca = 0) ∨ ∃ b off, A = some ⟨b, off, none⟩) := by
  simp only [Value.okWide, ht, Cell.okWide] at h
  cases A with
  | none =>
    rcases n with _ | n <;> rcases ca with _ | ca <;> simp_all [Cell.ok]
  | some x =>
    simp only [Cell.ok, ht] at h
    obtain ⟨b, off, sp⟩ := x
    obtain ⟨h1, _, _, h2, _⟩ := h
    simp at h2
    subst h2
    exact ⟨h1, .inr ⟨b, off, rfl⟩⟩

set_option maxRecDepth 1000000 in
set_option maxHeartbeats 4000000 in
theorem walk_LengthsTurned (w : World) (A : Option Addr) (n ca : Nat) (fr : List Int) (ha : IRow w A n .i64 fr) (hx : n ≤ ca ∧ ((A = none ∧ n = 0 ∧ ca = 0) ∨ ∃ b off, A = some ⟨b, off, none⟩)) (L : Int) (_hL : (Lit.int .i64 L).wf = true) (c0 : Int) (_hc : (Lit.int .i64 c0).wf = true) :
    Calls Try.prog 8 #[.slice A n ca, .int .i64 L, .int .i64 c0] w fun e w' => e = .returned (.bool true) ∧ Below w.heap.size w w' := by
  have hm1 := ha.max'
  by_cases h1 : (60 : Int) < n
  · go_enter Try.func8, Try.ntmps8
    go_wp2_with fail
    refine (alive09_c w).mono ?_
    rintro e w1 ⟨rfl, hb1⟩
    go_wp2
    go_ret
    exact ⟨rfl, hb1⟩
  · by_cases h2 : L < 7
    · go_enter Try.func8, Try.ntmps8
      go_wp2_with fail
      refine (alive09_c w).mono ?_
      rintro e w1 ⟨rfl, hb1⟩
      go_wp2
      go_ret
      exact ⟨rfl, hb1⟩
    · by_cases h3 : 15 < L
      · go_enter Try.func8, Try.ntmps8
        go_wp2_with fail
        refine (alive09_c w).mono ?_
        rintro e w1 ⟨rfl, hb1⟩
        go_wp2
        go_ret
        exact ⟨rfl, hb1⟩
      · obtain ⟨Lk, rfl⟩ : ∃ k : Nat, L = (k : Int) := ⟨L.toNat, by omega⟩
        obtain ⟨hca, ⟨rfl, rfl, rfl⟩ | ⟨b, off, rfl⟩⟩ := hx
        · exact turned_none w Lk (by omega) (by omega) c0 _hc
        · have hblk : 0 < n → b < w.heap.size := fun hn => by
            obtain ⟨b1, o1, e1, q1, _⟩ := ha.cells hn
            injection e1 with e1
            injection e1 with e1 e1'
            subst e1
            exact q1
          exact turned_some w b off n ca fr ha hblk hca (by omega) Lk (by omega) (by omega) c0 _hc
end Go.Proofs.Ytfnjjeopojdnjaa
