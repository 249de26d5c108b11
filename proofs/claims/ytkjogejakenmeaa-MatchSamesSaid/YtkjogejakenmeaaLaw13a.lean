/-
  LAW 13's WALK: MatchSames: it returns true, and writes nothing that was there. No conditions.
-/
import Derived.Test.YtkjogejakenmeaaLaw13
namespace Go.Proofs.Ytkjogejakenmeaa
open Go.RowKit
set_option maxRecDepth 1000000
set_option linter.unusedVariables false

theorem smZ_comm (l : List F) (i k : Int) : smZ l i k = smZ l k i := by
  unfold smZ
  by_cases h : i < 0 ∨ k < 0
  · rw [if_pos h, if_pos h.symm]
  · rw [if_neg h, if_neg (fun h2 => h h2.symm), smF_comm]
theorem smZ_le (l : List F) (i k : Int) : smZ l i k ≤ 258 := by
  unfold smZ
  split
  · omega
  · exact (smF_is l _ _).le
set_option maxHeartbeats 2000000 in
theorem walk_MatchSames (w : World) (A : Option Addr) (n ca : Nat) (l : List F) (hl : RowIn w A n ca l) (i : Int) (hi : (Lit.int .i64 i).wf = true) (k : Int) (hk : (Lit.int .i64 k).wf = true) :
    Calls Try.prog 6 #[.slice A n ca, .int .i64 i, .int .i64 k] w fun e w' => e = .returned (.bool true) ∧ Below w.heap.size w w' := by
  have hi2 := wf_i64 hi
  have hk2 := wf_i64 hk
  have hnm := hl.row.max
  have HAL := Lib.hid (alive13_c w)
  by_cases h1 : (600 : Int) < (n : Int)
  · go_enter Try.func6, Try.ntmps6
    go_wp2_with (go_at_call 8; refine HAL.out.mono ?_; rintro e w1 ⟨rfl, hb1⟩)
    go_ret
    exact ⟨rfl, hb1⟩
  have hn : n ≤ 600 := by omega
  have HL := Lib.hid hl
  have HLEN := Lib.hid hl.row.len
  have HS : Hid (∀ W, RowIn W A n ca l → ∀ x y : Int, (x < 9223372036854775808 ∧ -9223372036854775808 ≤ x) → (y < 9223372036854775808 ∧ -9223372036854775808 ≤ y) → Calls Try.prog 14 #[.slice A n ca, .int .i64 x, .int .i64 y] W fun e w' => e = .returned (.int .i64 (smZ l x y : Nat)) ∧ ∃ q, w' = W.drewN q) := fun W hW x y hx hy => MSame_c A n ca l W hW (by omega) x y hx hy
  have hcm := smZ_comm l k i
  have hle := smZ_le l i k
  obtain ⟨z, hz⟩ : ∃ z, z = smZ l i k := ⟨_, rfl⟩
  have HZ := Lib.hid hz
  have HC : Hid (smZ l k i = z) := by unfold Hid; rw [hcm, hz]
  rw [← hz] at hle
  clear hl hz hcm hi hk
  go_enter Try.func6, Try.ntmps6
  go_wp2_with fail
  refine HAL.out.mono ?_
  rintro e w1 ⟨rfl, hb1⟩
  have HB1 := Lib.hid hb1
  clear hb1
  go_wp2_with fail
  refine (HS.out w1 (HL.out.below HB1.out) i k (by omega) (by omega)).mono ?_
  rintro e w2 ⟨rfl, q2, rfl⟩
  rw [← HZ.out]
  have HB2 := Lib.hid (below_drewN HB1.out q2)
  generalize w1.drewN q2 = w2 at *
  have hself : ((z : Int) != (z : Int)) = false := by simp
  have hz0 : ¬ (z : Int) < 0 := by omega
  have hz258 : ¬ (258 : Int) < (z : Int) := by omega
  go_wp2_with fail
  refine (HS.out w2 (HL.out.below HB2.out) k i (by omega) (by omega)).mono ?_
  rintro e w3 ⟨rfl, q3, rfl⟩
  rw [HC.out]
  have HB3 := Lib.hid (below_drewN HB2.out q3)
  generalize w2.drewN q3 = w3 at *
  by_cases hout : i < 0 ∨ (n : Int) < i ∨ k < 0 ∨ (n : Int) < k
  · have hzz : z = 0 := by
      rw [HZ.out]; unfold smZ
      split
      · rfl
      · rename_i h9
        exact smF_out (by have := HLEN.out; omega)
    subst hzz
    have hcs : i < 0 ∨ (¬ i < 0 ∧ (n : Int) < i) ∨ (¬ i < 0 ∧ ¬ (n : Int) < i ∧ k < 0) ∨ (¬ i < 0 ∧ ¬ (n : Int) < i ∧ ¬ k < 0 ∧ (n : Int) < k) := by omega
    clear hout
    rcases hcs with g1 | ⟨g1, g2⟩ | ⟨g1, g2, g3⟩ | ⟨g1, g2, g3, g4⟩
    all_goals
      go_wp2
      go_ret
      exact ⟨rfl, HB3.out⟩
  · obtain ⟨a, rfl⟩ : ∃ a : Nat, i = (a : Int) := ⟨i.toNat, by omega⟩
    obtain ⟨b, rfl⟩ : ∃ b : Nat, k = (b : Int) := ⟨k.toNat, by omega⟩
    have g1 : ¬ (a : Int) < 0 := by omega
    have g2 : ¬ (n : Int) < (a : Int) := by omega
    have g3 : ¬ (b : Int) < 0 := by omega
    have g4 : ¬ (n : Int) < (b : Int) := by omega
    obtain ⟨m, hm⟩ : ∃ m, m = min (n - a) 258 := ⟨_, rfl⟩
    have hse : Hid (smZ l (a : Int) (a : Int) = m) := by unfold Hid smZ; rw [if_neg (by omega)]; show smF l a a = m; rw [smF_self l a (by have := HLEN.out; omega), hm, HLEN.out]
    obtain ⟨d, hd⟩ : ∃ d, d = n - a := ⟨_, rfl⟩
    have hd1 : (n : Int) - (a : Int) = (d : Int) := by omega
    have hm1 : min (d : Int) 258 = (m : Int) := by omega
    have hself2 : ((m : Int) != (m : Int)) = false := by simp
    have hzF : z = smF l a b := by rw [HZ.out]; unfold smZ; rw [if_neg (by omega)]; rfl
    have HZF := Lib.hid hzF
    clear hout hm hd hzF
    go_wp2_with fail
    refine (HS.out w3 (HL.out.below HB3.out) a a (by omega) (by omega)).mono ?_
    rintro e w4 ⟨rfl, q4, rfl⟩
    rw [hse.out]
    have HB4 := Lib.hid (below_drewN HB3.out q4)
    generalize w3.drewN q4 = w4 at *
    by_cases h0 : z = 0
    · have t1 : ((z : Int) == 0) = true := by rw [beq_iff_eq]; omega
      clear h0
      go_wp2
      go_ret
      exact ⟨rfl, HB4.out⟩
    have t1 : ((z : Int) == 0) = false := by rw [beq_eq_false_iff_ne]; omega
    by_cases h258 : z = 258
    · have t2 : ((z : Int) == 258) = true := by rw [beq_iff_eq]; omega
      clear h0 h258
      go_wp2
      go_ret
      exact ⟨rfl, HB4.out⟩
    have t2 : ((z : Int) == 258) = false := by rw [beq_eq_false_iff_ne]; omega
    obtain ⟨y, hy⟩ : ∃ y, y = z - 1 := ⟨_, rfl⟩
    have hy1 : (z : Int) - 1 = (y : Int) := by omega
    have hnx : Hid (smZ l ((a : Int) + 1) ((b : Int) + 1) = y) := by
      unfold Hid smZ
      rw [if_neg (by omega), show ((a : Int) + 1).toNat = a + 1 by omega, show ((b : Int) + 1).toNat = b + 1 by omega, smF_next (by rw [← HZF.out]; exact h0) (by rw [← HZF.out]; exact h258), ← HZF.out, hy]
    clear h0 h258 hy
    go_wp2_with fail
    refine (HS.out w4 (HL.out.below HB4.out) ((a : Int) + 1) ((b : Int) + 1) (by omega) (by omega)).mono ?_
    rintro e w5 ⟨rfl, q5, rfl⟩
    rw [hnx.out]
    have hyy : ((y : Int) == (y : Int)) = true := by simp
    go_wp2
    go_ret
    exact ⟨rfl, below_drewN HB4.out q5⟩
end Go.Proofs.Ytkjogejakenmeaa
