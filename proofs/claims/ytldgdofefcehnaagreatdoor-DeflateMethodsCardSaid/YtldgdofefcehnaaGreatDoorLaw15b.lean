/-
  LAW 15: DeflateMethods. No conditions (but that the tables lie as the program's text lays them).
-/
import Derived.Test.YtldgdofefcehnaaGreatDoorLaw15r
namespace Go.Proofs.YtldgdofefcehnaaGreatDoor
open Go.RowKit
set_option maxRecDepth 1000000
set_option linter.unusedVariables false
set_option maxHeartbeats 4000000 in
theorem walk_DeflateMethods (w : World) (ht : Tabs w) (A : Option Addr) (n ca : Nat) (l : List F) (hl : RowIn w A n ca l) (a : Int) (hwf : (Lit.int .i64 a).wf = true) :
  Calls Tryz.prog 7 #[.slice A n ca, .int .i64 a] w fun e w' => e = .returned (.bool true) ∧ Below w.heap.size w w' := by
 have HT := Lib.hid ht
 have HL := Lib.hid hl
 have HLN := Lib.hid hl.row.len
 by_cases hn : 700 < n
 ·have hn2 : (700 : Int) < (n : Int) := by omega
  clear ht hl
  go_enter Tryz.func7, Tryz.ntmps7
  go_wp2_with fail
  refine (alive15_c w HT.out).mono ?_
  rintro e w1 ⟨rfl, hb⟩
  go_wp2
  go_ret
  exact ⟨rfl, hb⟩
 have hn2 : ¬ (700 : Int) < (n : Int) := by omega
 obtain ⟨lev, hlev⟩ : ∃ lev : Nat, min (max a 0) 9 = (lev : Int) := ⟨(min (max a 0) 9).toNat, by omega⟩
 have HLEV := Lib.hid hlev
 clear ht hl hwf hlev
 go_enter Tryz.func7, Tryz.ntmps7
 go_wp2_with fail
 refine (alive15_c w HT.out).mono ?_
 rintro e w1 ⟨rfl, hb⟩
 have HB1 := Lib.hid hb
 clear hb
 go_wp2_with fail
 refine (Method_c w1 (HT.out.below HB1.out) A n ca l (HL.out.below HB1.out) (by omega) a lev HLEV.out).mono ?_
 rintro e w2 ⟨A2, n2, c2, z, o, rfl, hM2, hn2', hown2, hb2⟩
 have HM2 := Lib.hid hM2
 have HN2 := Lib.hid hn2'
 have HO2 := Lib.hid hown2
 have HB2 := Lib.hid (HB1.out.trans (hb2.mono HB1.out.size))
 clear hM2 hn2' hown2 hb2 HB1
 go_wp2_with fail
 refine (Method_c w2 (HT.out.below HB2.out) A n ca l (HL.out.below HB2.out) (by omega) a lev HLEV.out).mono ?_
 rintro e w3 ⟨A3, n3, c3, z', o', rfl, hM3, hn3, hown3, hb3⟩
 obtain ⟨rfl, rfl⟩ := HM2.out.unique hM3
 obtain rfl : n3 = n2 := hn3.trans HN2.out.symm
 have HR3 := Lib.hid (Row.of_own hown3)
 have HR2 := Lib.hid (Row.of_own (own_below HO2.out hb3))
 have HB3 := Lib.hid (HB2.out.trans (hb3.mono HB2.out.size))
 have HZ := Lib.hid HM2.out.ways
 clear hM3 hn3 hown3 hb3 HB2 HO2 HM2
 have zz : ((z : Int) != (z : Int)) = false := by simp
 go_wp2_with fail
 refine (Same_c A2 A3 n3 c2 c3 o o w3 HR2.out HR3.out rfl).mono ?_
 rintro e w4 ⟨rfl, q, rfl⟩
 have HB4 := Lib.hid (below_drewN HB3.out q)
 have HR4 := Lib.hid (HR2.out.drewN q)
 generalize w3.drewN q = w4 at *
 clear HB3 HR2 HR3
 rcases HZ.out with ⟨hz, ho⟩ | ⟨hz, h0, hlt, Y, hY, hoY⟩
 ·subst hz
  have HOL := Lib.hid ho
  have hnn : ¬ (n : Int) < (n3 : Int) := by have h1 := HN2.out; rw [ho, HLN.out] at h1; omega
  clear ho HZ
  have E1 : Hid (n3 = n) := by have h1 := HN2.out; rw [HOL.out, HLN.out] at h1; exact h1
  have HRN : Hid (Row w4 A2 n l) := by have h := HR4.out; rw [E1.out, HOL.out] at h; exact h
  go_wp2_with fail
  rw [E1.out]
  refine (Same_c A2 A n c2 ca l l w4 HRN.out (HL.out.below HB4.out).row rfl).mono ?_
  rintro e w5 ⟨rfl, q, rfl⟩
  have HB5 := Lib.hid (below_drewN HB4.out q)
  generalize w4.drewN q = w5 at *
  go_wp2
  go_ret
  exact ⟨rfl, HB5.out⟩
 ·subst hz
  have HY := Lib.hid hY
  subst hoY
  have e1 : n3 < n := by have h1 := HN2.out; rw [HLN.out] at hlt; omega
  have e2 : ¬ (n : Int) < (n3 : Int) := by omega
  have e3 : (n3 : Int) < (n : Int) := by omega
  have HU := Lib.hid (allF_pack (hY.un2 (fd_good l lev) (M := n) (by rw [HLN.out]; omega) (by rw [HLN.out]; omega)))
  clear hY hlt HZ
  go_wp2_with fail
  refine (All_c w4 (HT.out.below HB4.out) A2 n3 c2 _ HR4.out (by omega) (n : Int) n (by omega) (by omega)).mono ?_
  rintro e w5 (⟨z, g1, _⟩ | ⟨o5, A5, n5, c5, g1, rfl, hown5, hb5⟩)
  ·rw [HU.out] at g1; cases g1
  rw [HU.out] at g1
  injection g1 with g1
  subst g1
  obtain rfl : n5 = n := by have := own_len hown5; rw [HLN.out] at this; exact this.symm
  have HR5 := Lib.hid (Row.of_own hown5)
  have HB5 := Lib.hid (HB4.out.trans (hb5.mono HB4.out.size))
  clear hown5 hb5
  go_wp2_with fail
  refine (Same_c A5 A n5 c5 ca l l w5 HR5.out (HL.out.below HB5.out).row rfl).mono ?_
  rintro e w6 ⟨rfl, q, rfl⟩
  have HB6 := Lib.hid (below_drewN HB5.out q)
  generalize w5.drewN q = w6 at *
  go_wp2
  go_ret
  exact ⟨rfl, HB6.out⟩
end Go.Proofs.YtldgdofefcehnaaGreatDoor
