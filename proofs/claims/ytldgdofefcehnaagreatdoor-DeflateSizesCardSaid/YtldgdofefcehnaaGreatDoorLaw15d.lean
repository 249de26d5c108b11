/-
  LAW 15: DeflateSizes. No conditions (but that the tables lie as the program's text lays them).
-/
import Derived.Test.YtldgdofefcehnaaGreatDoorLaw15r
namespace Go.Proofs.YtldgdofefcehnaaGreatDoor
open Go.RowKit
set_option maxRecDepth 1000000
set_option linter.unusedVariables false
set_option maxHeartbeats 4000000 in
theorem walk_DeflateSizes (w : World) (ht : Tabs w) (b0 : Int) (hw0 : (Lit.int .i64 b0).wf = true) (A : Option Addr) (n ca : Nat) (l : List F) (hl : RowIn w A n ca l) (a : Int) (hwf : (Lit.int .i64 a).wf = true) :
  Calls Tryz.prog 4 #[.int .i64 b0, .slice A n ca, .int .i64 a] w fun e w' => e = .returned (.bool true) ∧ Below w.heap.size w w' := by
 have HT := Lib.hid ht
 have HL := Lib.hid hl
 have HLN := Lib.hid hl.row.len
 by_cases hn : 700 < n
 ·have hn2 : (700 : Int) < (n : Int) := by omega
  clear ht hl
  go_enter Tryz.func4, Tryz.ntmps4
  go_wp2_with fail
  refine (alive15_c w HT.out).mono ?_
  rintro e w1 ⟨rfl, hb⟩
  go_wp2
  go_ret
  exact ⟨rfl, hb⟩
 have hn2 : ¬ (700 : Int) < (n : Int) := by omega
 obtain ⟨lev, hlev⟩ : ∃ lev : Nat, min (max a 0) 9 = (lev : Int) := ⟨(min (max a 0) 9).toNat, by omega⟩
 have HLEV := Lib.hid hlev
 obtain ⟨sb, hsb⟩ : ∃ s, s = stsF b0 := ⟨_, rfl⟩
 have H1 : Hid (∀ W, Calls Tryz.prog 19 #[.int .i64 b0] W fun e w' => e = .returned (.int .i64 sb) ∧ W = w') := fun W => by rw [hsb]; exact StoredSize_c b0 W
 have H2 : Hid (∀ W, Calls Tryz.prog 15 #[.int .i64 b0] W fun e w' => e = .returned (.int .i64 sb) ∧ W = w') := fun W => by rw [hsb]; exact RStoredSize_c b0 W
 have H3 : Hid (∀ W, Calls Tryz.prog 19 #[.int .i64 (n : Int)] W fun e w' => e = .returned (.int .i64 (n + 5 : Nat)) ∧ W = w') := fun W => by
  have := StoredSize_c (n : Int) W
  rw [sts_nat (by omega), sts_small (by omega)] at this
  exact this
 have hss : (sb != sb) = false := by simp
 have hl65 : l.length ≤ 65535 := by rw [HLN.out]; omega
 clear ht hl hwf hlev hw0 hsb
 go_enter Tryz.func4, Tryz.ntmps4
 go_wp2_with fail
 refine (alive15_c w HT.out).mono ?_
 rintro e w1 ⟨rfl, hb⟩
 have HB1 := Lib.hid hb
 clear hb
 go_wp2_with fail
 refine (Method_c w1 (HT.out.below HB1.out) A n ca l (HL.out.below HB1.out) (by omega) a lev HLEV.out).mono ?_
 rintro e w2 ⟨A2, n2, c2, z, o, rfl, hM2, hn2', hown2, hb2⟩
 have HM2 := Lib.hid hM2
 have HN2 := Lib.hid hn2'
 have HO2 := Lib.hid hown2
 have HB2 := Lib.hid (HB1.out.trans (hb2.mono HB1.out.size))
 clear hM2 hn2' hown2 hb2 HB1
 go_wp2_with fail
 refine (PackE_c w2 (HT.out.below HB2.out) A n ca l (HL.out.below HB2.out) (by omega) a lev HLEV.out).mono ?_
 rintro e w3 ⟨A3, n3, c3, Y, rfl, hY, hn3, hown3, hb3⟩
 have HY := Lib.hid hY
 have HN3 := Lib.hid hn3
 have HR3 := Lib.hid (Row.of_own hown3)
 have HR2 := Lib.hid (Row.of_own (own_below HO2.out hb3))
 have HB3 := Lib.hid (HB2.out.trans (hb3.mono HB2.out.size))
 clear hY hn3 hown3 hb3 HB2 HO2
 go_wp2_with fail
 refine (H1.out w3).mono ?_
 rintro e _ ⟨rfl, rfl⟩
 go_wp2_with fail
 refine (H2.out w3).mono ?_
 rintro e _ ⟨rfl, rfl⟩
 go_wp2_with fail
 refine (RStored15_c w3 A n ca l (HL.out.below HB3.out).row (by omega)).mono ?_
 rintro e w4 ⟨A4, n4, c4, rfl, hn4, hown4, hb4⟩
 have hn45 : n4 = n + 5 := by rw [hn4, sto_size hl65, HLN.out]
 have HR34 := Lib.hid (HR3.out.below hb4)
 have HR24 := Lib.hid (HR2.out.below hb4)
 have HB4 := Lib.hid (HB3.out.trans (hb4.mono HB3.out.size))
 subst hn45
 clear hn4 hown4 hb4 HB3 HR3 HR2
 have hz5 : (((n + 5 : Nat) : Int) != ((n + 5 : Nat) : Int)) = false := by simp
 go_wp2_with fail
 refine (H3.out w4).mono ?_
 rintro e _ ⟨rfl, rfl⟩
 have hzz : ((n : Int) + 5 != (n : Int) + 5) = false := by simp
 by_cases h0 : 0 < a
 ·have h0i : ¬ a ≤ 0 := by omega
  have hYp : PackR (fdF l lev) l Y := by have := HY.out; unfold PacE at this; rwa [if_pos h0] at this
  have hM := HM2.out
  unfold MetR at hM
  rw [if_pos h0] at hM
  obtain ⟨Y', g1, g2⟩ := hM
  obtain rfl := hYp.unique g1
  rw [← HN3.out, HLN.out] at g2
  by_cases h1 : n3 < n
  ·rw [if_pos h1] at g2
   obtain ⟨rfl, rfl⟩ := g2
   have h1i : ¬ (n : Int) ≤ (n3 : Int) := by omega
   have HU := Lib.hid (allF_pack (hYp.un2 (fd_good l lev) (M := n) hl65 (by rw [HLN.out]; omega)))
   have e23 : n2 = n3 := by rw [HN2.out, HN3.out]
   have HE := Lib.hid e23
   clear g1 hYp h1 e23
   go_wp2_with fail
   refine (All_c w4 (HT.out.below HB4.out) A2 n2 c2 _ HR24.out (by have := HE.out; omega) (n : Int) n (by omega) (by omega)).mono ?_
   rintro e w5 (⟨z, g1, _⟩ | ⟨o5, A5, n5, c5, g1, rfl, hown5, hb5⟩)
   ·rw [HU.out] at g1; cases g1
   rw [HU.out] at g1
   injection g1 with g1
   subst g1
   obtain rfl : n5 = n := by have := own_len hown5; rw [HLN.out] at this; exact this.symm
   have HR5 := Lib.hid (Row.of_own hown5)
   have HR35 := Lib.hid (HR34.out.below hb5)
   have HR25 : Hid (Row w5 A2 n3 (pack Y)) := by have h := HR24.out.below hb5; rw [HE.out] at h; exact h
   have HB5 := Lib.hid (HB4.out.trans (hb5.mono HB4.out.size))
   clear hown5 hb5 HB4
   go_wp2_with fail
   rw [HE.out]
   refine (Same_c A2 A3 n3 c2 c3 _ _ w5 HR25.out HR35.out rfl).mono ?_
   rintro e w6 ⟨rfl, q, rfl⟩
   have HB6 := Lib.hid (below_drewN HB5.out q)
   have HR6 := Lib.hid (HR5.out.drewN q)
   generalize w5.drewN q = w6 at *
   clear HB5 HR5 HR35 HR25
   go_wp2_with fail
   refine (Same_c A5 A n5 c5 ca l l w6 HR6.out (HL.out.below HB6.out).row rfl).mono ?_
   rintro e w7 ⟨rfl, q, rfl⟩
   have HB7 := Lib.hid (below_drewN HB6.out q)
   generalize w6.drewN q = w7 at *
   go_wp2
   go_ret
   exact ⟨rfl, HB7.out⟩
  ·rw [if_neg h1] at g2
   obtain ⟨rfl, rfl⟩ := g2
   have h1i : (n : Int) ≤ (n3 : Int) := by omega
   have e2 : n2 = n := by have := HN2.out; rw [HLN.out] at this; exact this
   have HR25 : Hid (Row w4 A2 n o) := by have h := HR24.out; rw [e2] at h; exact h
   have HE := Lib.hid e2
   clear g1 hYp h1 e2
   go_wp2_with fail
   rw [HE.out]
   refine (Same_c A2 A n c2 ca o o w4 HR25.out (HL.out.below HB4.out).row rfl).mono ?_
   rintro e w5 ⟨rfl, q, rfl⟩
   have HB5 := Lib.hid (below_drewN HB4.out q)
   generalize w4.drewN q = w5 at *
   go_wp2
   go_ret
   exact ⟨rfl, HB5.out⟩
 ·have h0i : a ≤ 0 := by omega
  have hM := HM2.out
  unfold MetR at hM
  rw [if_neg h0] at hM
  obtain ⟨rfl, rfl⟩ := hM
  have e2 : n2 = n := by have := HN2.out; rw [HLN.out] at this; exact this
  have HR25 : Hid (Row w4 A2 n o) := by have h := HR24.out; rw [e2] at h; exact h
  have HE := Lib.hid e2
  clear e2
  go_wp2_with fail
  rw [HE.out]
  refine (Same_c A2 A n c2 ca o o w4 HR25.out (HL.out.below HB4.out).row rfl).mono ?_
  rintro e w5 ⟨rfl, q, rfl⟩
  have HB5 := Lib.hid (below_drewN HB4.out q)
  generalize w4.drewN q = w5 at *
  go_wp2
  go_ret
  exact ⟨rfl, HB5.out⟩
end Go.Proofs.YtldgdofefcehnaaGreatDoor
