/-
  RECORDS OF THE DIRECTORY: how many bytes the one at the beginning has (WRITTEN by wip/gen19h.py). No conditions.
-/
import Derived.Test.YtacllgglpjdobaaDoorCng
namespace Go.Proofs.YtacllgglpjdobaaDoor
open Go.RowKit
set_option maxRecDepth 100000
set_option linter.unusedVariables false

set_option maxHeartbeats 1500000 in
theorem lengthC_c (A : Option Addr) (n c : Nat) (l : List F) (w : World) (h : RowIn w A n c l) (hn : n ≤ 1000000) :
    Calls Tryd.prog 29 #[.slice A n c] w fun e w' => e = .returned (.tuple #[.int .i64 ((lnW l).1 : Nat), .int .i64 (lnW l).2]) ∧ Below w.heap.size w w' := by
  have hlen := h.row.len
  have hle := h.le
  by_cases h4 : n < 4
  · have i4 : (n : Int) < 4 := by omega
    have hv : lnW l = (0, 44) := by unfold lnW; rw [if_pos (.inl (by omega))]
    rw [hv]
    clear h hlen hv
    go_enter Tryd.func29, Tryd.ntmps29
    go_wp2
    go_ret2
    exact ⟨rfl, Below.refl _ _⟩
  · have i4 : ¬ (n : Int) < 4 := by omega
    have hg := Get_c A 4 c (l.take 4) w (h.row.take (by omega))
    rw [show getL ((l.take 4).take 8) = atL l 0 4 by unfold atL; rw [List.drop_zero]] at hg
    have HG := Lib.hid hg
    have H := Lib.hid h
    have i4c : (4 : Int) ≤ (c : Int) := by omega
    clear hg h
    by_cases hs : atL l 0 4 = 33639248
    · have b1 : (((atL l 0 4 : Nat) : Int) != 33639248) = false := by rw [hs]; rfl
      by_cases h30 : n < 46
      · have i30 : (n : Int) < 46 := by omega
        have hv : lnW l = (0, 20) := by unfold lnW; rw [if_neg (by omega), if_pos (by omega)]
        rw [hv]
        clear hv
        go_enter Tryd.func29, Tryd.ntmps29
        go_wp2_with (go_at_call 48; refine HG.out.mono ?_; rintro e _ ⟨rfl, rfl⟩)
        go_ret2
        exact ⟨rfl, Below.refl _ _⟩
      · have i30 : ¬ (n : Int) < 46 := by omega
        have i30c : (46 : Int) ≤ (c : Int) := by omega
        have HS := Lib.hid ((H.out.slice (a := 28) (M := 46) (by omega) (by omega)).2 (by omega))
        have hk1 : atL l 28 2 < 65536 := atL_lt l 28 2 (by omega)
        have hk2 : atL l 30 2 < 65536 := atL_lt l 30 2 (by omega)
        have ht : tolC l = 46 + atL l 28 2 + atL l 30 2 := rfl
        have e1 : getL ((((l.drop 28).take (46 - 28)).drop 0).take 2) = atL l 28 2 := by
          rw [atL_eq l 28 2 (by omega), List.drop_zero, List.take_take]
          rfl
        have e2 : getL ((((l.drop 28).take (46 - 28)).drop 2).take 2) = atL l 30 2 := by
          rw [atL_eq l 30 2 (by omega), List.drop_take, List.drop_drop, List.take_take]
          rfl
        have hv : lnW l = if n < tolC l then (0, 20) else (tolC l, 0) := by unfold lnW; rw [if_neg (by omega), if_neg (by omega), hlen]
        rw [hv]
        have E1 := Lib.hid e1
        have E2 := Lib.hid e2
        generalize atL l 28 2 = k1 at *
        generalize atL l 30 2 = k2 at *
        generalize tolC l = t at *
        have p1 : (46 : Int) + (k1 : Int) + (k2 : Int) = (t : Int) := by omega
        clear hv e1 e2
        have h83 : heldN 2 8 = 2 := rfl
        go_enter Tryd.func29, Tryd.ntmps29
        go_wp2_with (go_at_call 48; refine HG.out.mono ?_; rintro e _ ⟨rfl, rfl⟩)
        refine (Read_c _ 18 (c - 28) _ w HS.out.row (by omega)).mono ?_
        rintro e w1 ⟨p, A1, c1, rfl, hR1, hp1, hb1⟩
        have hn1 := Num_ok hR1 2 (by rw [h83]; omega)
        rw [h83, E1.out] at hn1
        have HN1 := Lib.hid hn1
        have HB1 := Lib.hid hb1
        have HL1 := Lib.hid hR1.lt
        clear hn1 hR1 hb1
        go_wp2_with fail
        refine HN1.out.mono ?_
        rintro e w2 ⟨rfl, hR2, hO2⟩
        have hn2 := Num_ok hR2 2 (by rw [h83]; omega)
        rw [h83, E2.out] at hn2
        have HN2 := Lib.hid hn2
        have HB2 := Lib.hid (HB1.out.trans (hO2.lowAt hp1 HL1.out))
        have HL2 := Lib.hid hR2.lt
        clear hn2 hR2 hO2
        go_wp2_with fail
        refine HN2.out.mono ?_
        rintro e w3 ⟨rfl, hR3, hO3⟩
        have HB3 := Lib.hid (HB2.out.trans (hO3.lowAt hp1 HL2.out))
        clear hR3 hO3
        have P1 := Lib.hid p1
        have ht2 : n < t ↔ (n : Int) < (46 : Int) + (k1 : Int) + (k2 : Int) := by omega
        clear p1 ht
        by_cases hnt : n < t
        · have hnti := ht2.1 hnt
          clear ht2
          go_wp2
          go_ret2
          exact ⟨rfl, HB3.out⟩
        · have hnti : ¬ (n : Int) < (46 : Int) + (k1 : Int) + (k2 : Int) := fun e => hnt (ht2.2 e)
          clear ht2
          go_wp2
          go_ret2
          exact ⟨by rw [← P1.out]; rfl, HB3.out⟩
    · have b1 : (((atL l 0 4 : Nat) : Int) != 33639248) = true := by rw [bne_iff_ne]; omega
      have hv : lnW l = (0, 44) := by unfold lnW; rw [if_pos (.inr hs)]
      rw [hv]
      clear hv
      go_enter Tryd.func29, Tryd.ntmps29
      go_wp2_with (go_at_call 48; refine HG.out.mono ?_; rintro e _ ⟨rfl, rfl⟩)
      go_ret2
      exact ⟨rfl, Below.refl _ _⟩
end Go.Proofs.YtacllgglpjdobaaDoor
