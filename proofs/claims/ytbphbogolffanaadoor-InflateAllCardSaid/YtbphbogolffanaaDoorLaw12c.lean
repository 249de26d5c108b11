/-
  LAW 12's WALK: InflateAll: it returns true, and writes nothing that was there. No conditions (but that the tables lie as the program's text lays them).
-/
import Derived.Test.YtbphbogolffanaaDoorLaw12
import Derived.Test.YtbphbogolffanaaDoorInfX
namespace Go.Proofs.YtbphbogolffanaaDoor
open Go.RowKit
set_option maxRecDepth 100000
set_option linter.unusedVariables false

theorem Row.nil_none (w : World) : Row w none 0 [] := ⟨rfl, by unfold maxLen; omega, fun h => absurd h (by omega)⟩
set_option maxHeartbeats 4000000 in
theorem walk_InflateAll (w : World) (ht : Tabs w) (A : Option Addr) (n ca : Nat) (l : List F) (hl : RowIn w A n ca l) (a : Int) (hwf : (Lit.int .i64 a).wf = true) :
    Calls Tryd.prog 3 #[.slice A n ca, .int .i64 a] w fun e w' => e = .returned (.bool true) ∧ Below w.heap.size w w' := by
  have hnm := hl.row.max
  have HAL := Lib.hid (alive12_c w ht)
  by_cases h1 : (120 : Int) < (n : Int)
  · go_enter Tryd.func3, Tryd.ntmps3
    go_wp2_with (go_at_call 6; refine HAL.out.mono ?_; rintro e w1 ⟨rfl, hb1⟩)
    go_ret
    exact ⟨rfl, hb1⟩
  by_cases h3 : (1000 : Int) < a
  · go_enter Tryd.func3, Tryd.ntmps3
    go_wp2_with (go_at_call 6; refine HAL.out.mono ?_; rintro e w1 ⟨rfl, hb1⟩)
    go_ret
    exact ⟨rfl, hb1⟩
  obtain ⟨M, hM⟩ : ∃ M : Nat, max a 0 = (M : Int) := ⟨(max a 0).toNat, by omega⟩
  have hM1 : M ≤ 1000 := by omega
  have hn120 : n ≤ 120 := by omega
  have HT := Lib.hid ht
  have HL := Lib.hid hl
  have HMX := Lib.hid hM
  clear ht hl
  go_enter Tryd.func3, Tryd.ntmps3
  go_wp2_with fail
  refine HAL.out.mono ?_
  rintro e w1 ⟨rfl, hb1⟩
  have HB1 := Lib.hid hb1
  clear hb1
  go_wp2_with fail
  refine (Unpack_c w1 (HT.out.below HB1.out) A n ca l (HL.out.row.below HB1.out) (by omega) a M HMX.out (by omega)).mono ?_
  rintro e w2 (⟨z, g1, rfl, g2⟩ | ⟨u, A2, n2, c2, g1, rfl, g2, g3⟩)
  · have hz := unpF_no0 g1
    have hne : ((z : Int) == 0) = false := by rw [beq_eq_false_iff_ne]; omega
    have hself : ((z : Int) != (z : Int)) = false := by simp
    have hself2 : ((z : Int) == (z : Int)) = true := by simp
    have HU := Lib.hid g1
    have HA : Hid (allF l M = .error z) := by unfold Hid allF; rw [g1]; rfl
    have HB2 := Lib.hid (HB1.out.trans (g2.mono HB1.out.size))
    clear g1 g2 hz
    go_wp2_with fail
    refine (RefUnpack_c w2 A n ca l (HL.out.below HB2.out) (by omega) a M HMX.out (by omega)).mono ?_
    rintro e w3 (⟨z2, g1, rfl, g2⟩ | ⟨u2, A3, n3, c3, g1, rfl, g2, g3⟩)
    · rw [HU.out] at g1
      injection g1 with g1
      subst g1
      have HB3 := Lib.hid (HB2.out.trans (g2.mono HB2.out.size))
      clear g2
      go_wp2_with (go_at_call 9; refine (Same_c none none 0 0 0 [] [] w3 (Row.nil_none _) (Row.nil_none _) rfl).mono ?_; rintro e w4 ⟨rfl, q4, rfl⟩)
      refine (All_no (HT.out.below (below_drewN HB3.out q4)) (HL.out.row.below (below_drewN HB3.out q4)) (by omega) HMX.out (by omega) HA.out).mono ?_
      rintro e w5 ⟨rfl, hb5⟩
      have HB5 := Lib.hid ((below_drewN HB3.out q4).trans (hb5.mono (below_drewN HB3.out q4).size))
      clear hb5
      go_wp2_with (go_at_call 9; refine (Same_c none none 0 0 0 [] [] w5 (Row.nil_none _) (Row.nil_none _) rfl).mono ?_; rintro e w6 ⟨rfl, q6, rfl⟩)
      go_ret
      exact ⟨rfl, below_drewN HB5.out q6⟩
    · rw [HU.out] at g1; cases g1
  · obtain ⟨k1, k2, k3⟩ := unpF_pos g1
    have hol := own_len g2
    have HU := Lib.hid g1
    obtain ⟨N, hN⟩ : ∃ N, N = (u.at_ + 7) / 8 := ⟨_, rfl⟩
    have hA : allF l M = if N < n then .error 22 else .ok u.out := by unfold allF; rw [g1, bnd_ok, ← hN, HL.out.row.len]
    rw [← hN]
    have hNn : N ≤ n := by have := HL.out.row.len; omega
    have hself : ((N : Int) != (N : Int)) = false := by simp
    have hn2M : n2 ≤ M := by omega
    have HA := Lib.hid hA
    have HN := Lib.hid hN
    have HOL := Lib.hid hol
    have HOW := Lib.hid (Row.of_own g2)
    have HB2 := Lib.hid (HB1.out.trans (g3.mono HB1.out.size))
    clear g1 g2 g3 k1 k2 k3 hol hN hA HB1
    go_wp2_with fail
    refine (RefUnpack_c w2 A n ca l (HL.out.below HB2.out) (by omega) a M HMX.out (by omega)).mono ?_
    rintro e w3 (⟨z2, g1, rfl, g2⟩ | ⟨u2, A3, n3, c3, g1, rfl, g2, g3⟩)
    · rw [HU.out] at g1; cases g1
    · rw [HU.out] at g1
      injection g1 with g1
      subst g1
      obtain rfl : n3 = n2 := by have := own_len g2; have := HOL.out; omega
      rw [← HN.out]
      have HR3 := Lib.hid (Row.of_own g2)
      have HOW3 := Lib.hid (HOW.out.below g3)
      have HB3 := Lib.hid (HB2.out.trans (g3.mono HB2.out.size))
      clear g2 g3 HOW HB2
      by_cases hlt : N < n
      · have hE : Hid (allF l M = .error 22) := by unfold Hid; rw [HA.out, if_pos hlt]
        have hlt2 : decide (N < n) = true := decide_eq_true hlt
        have hlt3 : (N : Int) < (n : Int) := by omega
        go_wp2_with (go_at_call 9; refine (Same_c _ _ _ _ _ _ _ _ HOW3.out HR3.out rfl).mono ?_; rintro e w4 ⟨rfl, q4, rfl⟩)
        refine (All_no (HT.out.below (below_drewN HB3.out q4)) (HL.out.row.below (below_drewN HB3.out q4)) (by omega) HMX.out (by omega) hE.out).mono ?_
        rintro e w5 ⟨rfl, hb5⟩
        have HB5 := Lib.hid ((below_drewN HB3.out q4).trans (hb5.mono (below_drewN HB3.out q4).size))
        clear hb5
        go_wp2
        go_ret
        exact ⟨rfl, HB5.out⟩
      · have hE : Hid (allF l M = .ok u.out) := by unfold Hid; rw [HA.out, if_neg hlt]
        have hlt2 : decide (N < n) = false := decide_eq_false hlt
        have hlt3 : ¬ (N : Int) < (n : Int) := by omega
        go_wp2_with (go_at_call 9; refine (Same_c _ _ _ _ _ _ _ _ HOW3.out HR3.out rfl).mono ?_; rintro e w4 ⟨rfl, q4, rfl⟩)
        refine (All_ok (HT.out.below (below_drewN HB3.out q4)) (HL.out.row.below (below_drewN HB3.out q4)) (by omega) HMX.out (by omega) hE.out).mono ?_
        rintro e w5 ⟨A5, n5, c5, rfl, hown5, hb5⟩
        obtain rfl : n5 = n3 := by have := own_len hown5; have := HOL.out; omega
        have HR5 := Lib.hid (Row.of_own hown5)
        have HOW5 := Lib.hid (Row.below (w := w3.drewN q4) HOW3.out hb5)
        have HB5 := Lib.hid ((below_drewN HB3.out q4).trans (hb5.mono (below_drewN HB3.out q4).size))
        clear hb5 hown5
        go_wp2_with (go_at_call 9; refine (Same_c _ _ _ _ _ _ _ _ HR5.out HOW5.out rfl).mono ?_; rintro e w6 ⟨rfl, q6, rfl⟩)
        go_ret
        exact ⟨rfl, below_drewN HB5.out q6⟩
end Go.Proofs.YtbphbogolffanaaDoor
