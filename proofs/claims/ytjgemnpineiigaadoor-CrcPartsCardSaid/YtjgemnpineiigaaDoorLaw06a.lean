/-
  LAW 06's WALKS, first part: CrcSums, CrcJoins: each returns true, and writes nothing that was there. No conditions but that the table lies as the program's text lays it.
-/
import Derived.Test.YtjgemnpineiigaaDoorLaw06
namespace Go.Proofs.YtjgemnpineiigaaDoor
open Go.RowKit
set_option maxRecDepth 100000
set_option linter.unusedVariables false

set_option maxHeartbeats 1000000 in
theorem walk_CrcSums (w : World) (ht : Tab w) (x : G) (A : Option Addr) (n cap : Nat) (l : List F) (h : RowIn w A n cap l) (s : Int) (hs : (Lit.int .i64 s).wf = true) :
    Calls Tryd.prog 3 #[.int .u32 x.n, .slice A n cap, .int .i64 s] w fun e w' => e = .returned (.bool true) ∧ Below w.heap.size w w' := by
  have hnm := h.row.max
  by_cases hn : (300 : Int) < n
  · go_enter Tryd.func3, Tryd.ntmps3
    go_wp2_with (go_at_call 8; refine (alive06_c _ ht).mono ?_; rintro e w1 ⟨rfl, hb1⟩)
    go_ret
    exact ⟨rfl, hb1⟩
  · have hn2 : n ≤ 1048576 := by omega
    have hs2 : s ≤ 9223372036854775807 := by
      simp [Lit.wf, IntKind.min, IntKind.max, IntKind.bits, IntKind.signed] at hs
      omega
    by_cases hs1 : s < 1
    · go_enter Tryd.func3, Tryd.ntmps3
      go_wp2_with (first
        | (go_at_call 8; refine (alive06_c _ ht).mono ?_; rintro e w1 ⟨rfl, hb1⟩; have h1 := h.below hb1; have ht1 := ht.below hb1 rfl)
        | (go_at_call 9; refine (Update_c x A n cap l _ ht1 h1.row).mono ?_; rintro e w' ⟨rfl, rfl⟩)
        | (go_at_call 10; refine (RefUpdate_c x A n cap l _ h1.row).mono ?_; rintro e w' ⟨rfl, rfl⟩)
        | (go_at_call 11; refine (Sum_c A n cap l _ ht1 h1.row).mono ?_; rintro e w' ⟨rfl, rfl⟩)
        | (go_at_call 12; refine (RefSum_c A n cap l _ h1.row).mono ?_; rintro e w' ⟨rfl, rfl⟩)
        | (go_at_call 14; refine (Blocks_none A n cap s _ hs1).mono ?_; rintro e w' ⟨rfl, rfl⟩)
        | (go_at_call 15; refine (RefBlocks_none A n cap s _ hs1).mono ?_; rintro e w2 ⟨rfl, hb2⟩)
        | (go_at_call 13; refine (GSame_c _ _ 0 _ _ [] [] _ (GRow.nil _ _) (GRow.nil _ _) rfl).mono ?_; rintro e w' ⟨rfl, q, rfl⟩))
      go_ret
      exact ⟨rfl, below_drewN (hb1.trans (hb2.mono hb1.size)) q⟩
    · obtain ⟨k, rfl⟩ := Int.eq_ofNat_of_zero_le (show 0 ≤ s by omega)
      have hk : 0 < k := by omega
      have hk2 : k ≤ 9223372036854775807 := by omega
      go_enter Tryd.func3, Tryd.ntmps3
      go_wp2_with (first
        | (go_at_call 8; refine (alive06_c _ ht).mono ?_; rintro e w1 ⟨rfl, hb1⟩; have h1 := h.below hb1; have ht1 := ht.below hb1 rfl)
        | (go_at_call 9; refine (Update_c x A n cap l _ ht1 h1.row).mono ?_; rintro e w' ⟨rfl, rfl⟩)
        | (go_at_call 10; refine (RefUpdate_c x A n cap l _ h1.row).mono ?_; rintro e w' ⟨rfl, rfl⟩)
        | (go_at_call 11; refine (Sum_c A n cap l _ ht1 h1.row).mono ?_; rintro e w' ⟨rfl, rfl⟩)
        | (go_at_call 12; refine (RefSum_c A n cap l _ h1.row).mono ?_; rintro e w' ⟨rfl, rfl⟩)
        | (go_at_call 14
           refine (Blocks_c A n cap k l _ ht1 h1 hn2 hk hk2).mono ?_
           rintro e w2 ⟨v2, rfl, hown2, hb2⟩
           have h2 := h1.below hb2
           obtain ⟨A2, c2, rfl⟩ := own_shape6 hown2)
        | (go_at_call 15
           refine (RefBlocks_c A n cap k l _ h2 hn2 hk hk2).mono ?_
           rintro e w3 ⟨g3, c3, rfl, hown3, hb3⟩)
        | (go_at_call 13; refine (GSame_c _ _ _ _ _ _ _ _ ((GRow.of_own hown2).below hb3) (GRow.of_own hown3) rfl).mono ?_; rintro e w' ⟨rfl, q, rfl⟩))
      go_ret
      have hb12 := hb1.trans (hb2.mono hb1.size)
      exact ⟨rfl, below_drewN (hb12.trans (hb3.mono hb12.size)) q⟩
end Go.Proofs.YtjgemnpineiigaaDoor
