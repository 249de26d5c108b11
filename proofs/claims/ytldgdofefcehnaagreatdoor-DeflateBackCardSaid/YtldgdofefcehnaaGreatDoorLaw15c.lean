/-
  LAW 15: DeflateBack. No conditions (but that the tables lie as the program's text lays them).
-/
import Derived.Test.YtldgdofefcehnaaGreatDoorLaw15r
namespace Go.Proofs.YtldgdofefcehnaaGreatDoor
open Go.RowKit
set_option maxRecDepth 1000000
set_option linter.unusedVariables false
set_option maxHeartbeats 4000000 in
theorem walk_DeflateBack (w : World) (ht : Tabs w) (A : Option Addr) (n ca : Nat) (l : List F) (hl : RowIn w A n ca l) (a : Int) (hwf : (Lit.int .i64 a).wf = true) :
  Calls Tryz.prog 3 #[.slice A n ca, .int .i64 a] w fun e w' => e = .returned (.bool true) ∧ Below w.heap.size w w' := by
 have HT := Lib.hid ht
 have HL := Lib.hid hl
 have HLN := Lib.hid hl.row.len
 by_cases hn : 700 < n
 ·have hn2 : (700 : Int) < (n : Int) := by omega
  clear ht hl
  go_enter Tryz.func3, Tryz.ntmps3
  go_wp2_with fail
  refine (alive15_c w HT.out).mono ?_
  rintro e w1 ⟨rfl, hb⟩
  go_wp2
  go_ret
  exact ⟨rfl, hb⟩
 have hn2 : ¬ (700 : Int) < (n : Int) := by omega
 obtain ⟨lev, hlev⟩ : ∃ lev : Nat, min (max a 0) 9 = (lev : Int) := ⟨(min (max a 0) 9).toNat, by omega⟩
 have HLEV := Lib.hid hlev
 have HS : Hid (∀ W, Calls Tryz.prog 15 #[.int .i64 (n : Int)] W fun e w' => e = .returned (.int .i64 (n + 5 : Nat)) ∧ W = w') := fun W => by
  have := RStoredSize_c (n : Int) W
  rw [sts_nat (by omega), sts_small (by omega)] at this
  exact this
 have hl65 : l.length ≤ 65535 := by rw [HLN.out]; omega
 clear ht hl hwf hlev
 go_enter Tryz.func3, Tryz.ntmps3
 go_wp2_with fail
 refine (alive15_c w HT.out).mono ?_
 rintro e w1 ⟨rfl, hb⟩
 have HB1 := Lib.hid hb
 clear hb
 go_wp2_with fail
 refine (PackE_c w1 (HT.out.below HB1.out) A n ca l (HL.out.below HB1.out) (by omega) a lev HLEV.out).mono ?_
 rintro e w2 ⟨A2, n2, c2, Y, rfl, hY, hn2', hown2, hb2⟩
 have hnl := hY.len hl65
 rw [← hn2', HLN.out] at hnl
 have HU := Lib.hid (hY.un (M := n) hl65 (by rw [HLN.out]; omega))
 have HN2 := Lib.hid hn2'
 have HO2 := Lib.hid hown2
 have HY := Lib.hid hY
 have HB2 := Lib.hid (HB1.out.trans (hb2.mono HB1.out.size))
 clear hY hn2' hown2 hb2 HB1
 have HRU := Lib.hid (RefUnpack_c w2 A2 n2 c2 (pack Y) (own_in HO2.out) (by omega) (n : Int) n (by omega) (by omega))
 go_wp2_with fail
 refine HRU.out.mono ?_
 rintro e w3 hU
 rw [HU.out] at hU
 rcases hU with ⟨z, h1, _⟩ | ⟨u, A3, n3, c3, h1, rfl, hown3, hb3⟩
 ·cases h1
 injection h1 with h1
 subst h1
 obtain rfl : n3 = n := by have := own_len hown3; rw [show (Un.mk Y.length l).out = l from rfl, HLN.out] at this; exact this.symm
 have HR3 : Hid (Row w3 A3 n3 l) := Row.of_own hown3
 have HR2 := Lib.hid (Row.of_own (own_below HO2.out hb3))
 have HB3 := Lib.hid (HB2.out.trans (hb3.mono HB2.out.size))
 have hq : (((Un.mk Y.length l).at_ + 7) / 8 : Nat) = n2 := by rw [HN2.out, pack_length]
 rw [hq]
 have hz : ((n2 : Int) != (n2 : Int)) = false := by simp
 clear hown3 hb3 HB2 HO2 HRU HU hq
 go_wp2_with fail
 refine (Same_c A3 A n3 c3 ca l l w3 HR3.out (HL.out.below HB3.out).row rfl).mono ?_
 rintro e w4 ⟨rfl, q, rfl⟩
 have HB4 := Lib.hid (below_drewN HB3.out q)
 have HR4 := Lib.hid (HR2.out.drewN q)
 generalize w3.drewN q = w4 at *
 clear HB3 HR3 HR2
 go_wp2_with fail
 refine (HS.out w4).mono ?_
 rintro e _ ⟨rfl, rfl⟩
 have hgt : ¬ ((n3 + 5 : Nat) : Int) < (n2 : Int) := by omega
 have hgt2 : ¬ (n3 : Int) + 5 < (n2 : Int) := by omega
 go_wp2_with fail
 refine (RStored15_c w4 A n3 ca l (HL.out.below HB4.out).row (by omega)).mono ?_
 rintro e w5 ⟨A5, n5, c5, rfl, hn5, hown5, hb5⟩
 have HN5 := Lib.hid hn5
 have HO5 := Lib.hid hown5
 have HR5 := Lib.hid (HR4.out.below hb5)
 have HB5 := Lib.hid (HB4.out.trans (hb5.mono HB4.out.size))
 clear hn5 hown5 hb5 HB4 HR4 hgt hgt2
 go_wp2_with fail
 refine (DStored_c w5 A n3 ca l (HL.out.below HB5.out) (by omega)).mono ?_
 rintro e w6 ⟨A6, n6, c6, rfl, hn6, hown6, hb6⟩
 obtain rfl : n6 = n5 := hn6.trans HN5.out.symm
 have HR6 := Lib.hid (Row.of_own hown6)
 have HR65 := Lib.hid (Row.of_own (own_below HO5.out hb6))
 have HR62 := Lib.hid (HR5.out.below hb6)
 have HB6 := Lib.hid (HB5.out.trans (hb6.mono HB5.out.size))
 clear hn6 hown6 hb6 HB5 HR5 HO5
 go_wp2_with fail
 refine (Same_c A6 A5 n6 c6 c5 _ _ w6 HR6.out HR65.out rfl).mono ?_
 rintro e w7 ⟨rfl, q, rfl⟩
 have HB7 := Lib.hid (below_drewN HB6.out q)
 have HR75 := Lib.hid (HR65.out.drewN q)
 have HR72 := Lib.hid (HR62.out.drewN q)
 generalize w6.drewN q = w7 at *
 clear HB6 HR6 HR65 HR62
 by_cases h0 : 0 < a
 ·go_wp2
  go_ret
  exact ⟨rfl, HB7.out⟩
 ·have hYs : Y = stoB [] l true := by have := HY.out; unfold PacE at this; rwa [if_neg h0] at this
  have e26 : n2 = n6 := by rw [HN2.out, HN5.out, hYs]
  have HR7 : Hid (Row w7 A2 n6 (pack (stoB [] l true))) := by have h := HR72.out; rw [hYs, e26] at h; exact h
  have HE := Lib.hid e26
  clear hYs e26
  go_wp2_with fail
  rw [HE.out]
  refine (Same_c A2 A5 n6 c2 c5 _ _ w7 HR7.out HR75.out rfl).mono ?_
  rintro e w8 ⟨rfl, q, rfl⟩
  have HB8 := Lib.hid (below_drewN HB7.out q)
  generalize w7.drewN q = w8 at *
  go_wp2
  go_ret
  exact ⟨rfl, HB8.out⟩
end Go.Proofs.YtldgdofefcehnaaGreatDoor
