/-
  LAW 15: DeflateForms. No conditions (but that the tables lie as the program's text lays them).
-/
import Derived.Test.YtldgdofefcehnaaGreatDoorLaw15r
namespace Go.Proofs.YtldgdofefcehnaaGreatDoor
open Go.RowKit
set_option maxRecDepth 1000000
set_option linter.unusedVariables false
theorem sts_step (z : Nat) : (0 < z ∧ z % 65535 = 0 → stsN (z + 1) = stsN z + 6) ∧ (¬ (0 < z ∧ z % 65535 = 0) → stsN (z + 1) = stsN z + 1) := by
 unfold stsN
 constructor <;> intro h <;> omega
set_option maxHeartbeats 4000000 in
theorem walk_DeflateForms (w : World) (ht : Tabs w) (A : Option Addr) (n ca : Nat) (l : List F) (hl : RowIn w A n ca l) (a : Int) (hwf : (Lit.int .i64 a).wf = true) :
  Calls Tryz.prog 6 #[.slice A n ca, .int .i64 a] w fun e w' => e = .returned (.bool true) ∧ Below w.heap.size w w' := by
 have HT := Lib.hid ht
 have HL := Lib.hid hl
 have HLN := Lib.hid hl.row.len
 by_cases hn : 700 < n
 ·have hn2 : (700 : Int) < (n : Int) := by omega
  clear ht hl
  go_enter Tryz.func6, Tryz.ntmps6
  go_wp2_with fail
  refine (alive15_c w HT.out).mono ?_
  rintro e w1 ⟨rfl, hb⟩
  go_wp2
  go_ret
  exact ⟨rfl, hb⟩
 have hn2 : ¬ (700 : Int) < (n : Int) := by omega
 obtain ⟨z, hz⟩ : ∃ z : Nat, a % 16777216 = (z : Int) := ⟨(a % 16777216).toNat, by omega⟩
 have hzl : z < 16777216 := by omega
 have hand : bits .and .i64 a 16777215 = (z : Int) := by
  have := andLow a 24 (by decide)
  rw [show (16777215 : Int) = ((2 ^ 24 - 1 : Nat) : Int) from rfl, this]
  omega
 obtain ⟨z1, hz1⟩ : ∃ z1, z1 = z + 1 := ⟨_, rfl⟩
 have hz2 : (z : Int) + 1 = (z1 : Int) := by omega
 have hst := sts_step z
 rw [← hz1] at hst
 obtain ⟨S0, hS0⟩ : ∃ S0, S0 = stsN z := ⟨_, rfl⟩
 obtain ⟨S1, hS1⟩ : ∃ S1, S1 = stsN z1 := ⟨_, rfl⟩
 have H0 : Hid (∀ W, Calls Tryz.prog 19 #[.int .i64 (z : Int)] W fun e w' => e = .returned (.int .i64 (S0 : Nat)) ∧ W = w') := fun W => by
  have := StoredSize_c (z : Int) W
  rw [sts_nat (by omega), ← hS0] at this
  exact this
 have H1 : Hid (∀ W, Calls Tryz.prog 19 #[.int .i64 (z1 : Int)] W fun e w' => e = .returned (.int .i64 (S1 : Nat)) ∧ W = w') := fun W => by
  have := StoredSize_c (z1 : Int) W
  rw [sts_nat (by omega), ← hS1] at this
  exact this
 have hSl : S0 ≤ 100000000 ∧ S1 ≤ 100000000 := by rw [hS0, hS1]; unfold stsN; omega
 rw [← hS0, ← hS1] at hst
 have hn5 : (pack (stoB [] l true)).length = n + 5 := by rw [sto_size (by rw [HLN.out]; omega), HLN.out]
 have HN5 := Lib.hid hn5
 have H2 : Hid (∀ W, Calls Tryz.prog 19 #[.int .i64 (n : Int)] W fun e w' => e = .returned (.int .i64 (n + 5 : Nat)) ∧ W = w') := fun W => by
  have := StoredSize_c (n : Int) W
  rw [sts_nat (by omega), sts_small (by omega)] at this
  exact this
 have HU := Lib.hid (allF_pack (un_stored (l := l) (M := n) (by rw [HLN.out]; omega) (by rw [HLN.out]; omega)))
 have HD : Hid (0 < z ∧ z % 65535 = 0 ∧ S1 = S0 + 6 ∨ S1 = S0 + 1) := by
  by_cases h : 0 < z ∧ z % 65535 = 0
  ·exact .inl ⟨h.1, h.2, hst.1 h⟩
  ·exact .inr (hst.2 h)
 clear ht hl hwf hz hz1 hS0 hS1 hst hn5
 go_enter Tryz.func6, Tryz.ntmps6
 go_wp2_with fail
 refine (alive15_c w HT.out).mono ?_
 rintro e w1 ⟨rfl, hb⟩
 have HB1 := Lib.hid hb
 clear hb
 go_wp2_with fail
 refine (DStored_c w1 A n ca l (HL.out.below HB1.out) (by omega)).mono ?_
 rintro e w2 ⟨A2, n2, c2, rfl, h2, hown2, hb2⟩
 rw [HN5.out] at h2
 have HO2 := Lib.hid hown2
 have HB2 := Lib.hid (HB1.out.trans (hb2.mono HB1.out.size))
 have H5 := Lib.hid h2
 clear hown2 hb2 HB1 h2
 go_wp2_with fail
 refine (All_c w2 (HT.out.below HB2.out) A2 n2 c2 _ (Row.of_own HO2.out) (by have := H5.out; omega) (n : Int) n (by omega) (by omega)).mono ?_
 rintro e w3 (⟨z, g1, _⟩ | ⟨o, A3, n3, c3, g1, rfl, hown3, hb3⟩)
 ·rw [HU.out] at g1; cases g1
 rw [HU.out] at g1
 injection g1 with g1
 subst g1
 obtain rfl : n3 = n := by have := own_len hown3; rw [HLN.out] at this; exact this.symm
 have HR3 := Lib.hid (Row.of_own hown3)
 have HB3 := Lib.hid (HB2.out.trans (hb3.mono HB2.out.size))
 clear hown3 hb3 HB2 HO2
 go_wp2_with fail
 refine (H1.out _).mono ?_
 rintro e _ ⟨rfl, rfl⟩
 go_wp2_with fail
 refine (H0.out _).mono ?_
 rintro e _ ⟨rfl, rfl⟩
 go_wp2_with fail
 refine (Same_c A3 A n3 c3 ca l l w3 HR3.out (HL.out.below HB3.out).row rfl).mono ?_
 rintro e w4 ⟨rfl, q, rfl⟩
 have HB4 := Lib.hid (below_drewN HB3.out q)
 generalize w3.drewN q = w4 at *
 clear HB3 HR3
 go_wp2_with fail
 refine (H2.out _).mono ?_
 rintro e _ ⟨rfl, rfl⟩
 have hE : ((n2 : Int) == ((n3 + 5 : Nat) : Int)) = true := by rw [beq_iff_eq]; have := H5.out; omega
 have hE2 : ((n2 : Int) == (n3 : Int) + 5) = true := by rw [beq_iff_eq]; have := H5.out; omega
 rcases HD.out with ⟨d1, d2, d3⟩ | d3
 ·have e1 : (S1 : Int) - (S0 : Int) = 6 := by omega
  have e2 : (0 : Int) < (z : Int) := by omega
  have e3 : (z : Int) % 65535 = 0 := by omega
  have e4 : (z : Int).tmod 65535 = 0 := by rw [Int.tmod_eq_emod_of_nonneg (by omega)]; exact e3
  clear d3
  go_wp2
  go_ret
  exact ⟨rfl, HB4.out⟩
 ·have e1 : (S1 : Int) - (S0 : Int) = 1 := by omega
  clear d3
  go_wp2
  go_ret
  exact ⟨rfl, HB4.out⟩
end Go.Proofs.YtldgdofefcehnaaGreatDoor
