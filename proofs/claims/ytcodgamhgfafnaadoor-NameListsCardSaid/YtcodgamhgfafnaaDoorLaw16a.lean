/-
  LAW 16: NameLists, as a walk. No conditions.
-/
import Derived.Test.YtcodgamhgfafnaaDoorLaw16
namespace Go.Proofs.YtcodgamhgfafnaaDoor
open Go.RowKit Go.Shelf
set_option maxRecDepth 1000000
set_option linter.unusedVariables false

set_option maxHeartbeats 2000000 in
theorem walk_NameLists (w : World) (_ : True) (A : Option Addr) (n c : Nat) (L : List (List UInt8)) (h : SRow w A n L) (hc : n ≤ c) (hm : c ≤ 9223372036854775807) (hx : ∀ i, i < n → (L.getD i []).length ≤ maxLen) :
    Calls Tryd.prog 4 #[.slice A n c] w fun e w' => e = .returned (.bool true) ∧ Below w.heap.size w w' := by
  have H := Lib.hid h
  have HX := Lib.hid hx
  clear h hx
  by_cases h60 : 60 < n
  · go_enter Tryd.func4, Tryd.ntmps4
    go_wp2_with fail
    refine (alive16_c _).mono ?_
    rintro e w1 ⟨rfl, hb⟩
    go_wp2
    go_ret
    exact ⟨rfl, hb⟩
  · go_enter Tryd.func4, Tryd.ntmps4
    go_wp2_with fail
    refine (alive16_c _).mono ?_
    rintro e w1 ⟨rfl, hb⟩
    have B1 := Lib.hid hb
    clear hb
    go_wp2_with fail
    refine (Twice_c A n c L w1 (H.out.below B1.out) (by omega) HX.out).mono ?_
    rintro e w2 ⟨z, rfl, hz, hb⟩
    have B2 := Lib.hid (B1.out.trans (hb.mono B1.out.size))
    have HZ := Lib.hid hz
    clear hb hz
    go_wp2_with fail
    refine (RTwice_c A n c L w2 (H.out.below B2.out) (by omega)).mono ?_
    rintro e w3 ⟨z', rfl, hz, hb⟩
    have B3 := Lib.hid (B2.out.trans (hb.mono B2.out.size))
    obtain rfl := HZ.out.unique hz
    clear hb hz
    go_wp2
    go_ret
    exact ⟨rfl, B3.out⟩
end Go.Proofs.YtcodgamhgfafnaaDoor
