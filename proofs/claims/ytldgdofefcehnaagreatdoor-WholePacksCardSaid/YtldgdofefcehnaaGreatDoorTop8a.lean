/-
  WholePacks. No conditions (but that the tables lie as the program's text lays them).
-/
import Derived.Test.YtldgdofefcehnaaGreatDoorTop8
namespace Go.Proofs.YtldgdofefcehnaaGreatDoor
open Go.RowKit
set_option maxRecDepth 1000000
set_option linter.unusedVariables false
theorem un_behind {l m : List F} {M : Nat} {u : Un} (h : unpF l M = .ok u) (hu : u.out.length ≤ M) : unpF (l ++ m) M = .ok u := by
 obtain ⟨h1, h2, h3⟩ := unpF_pos h
 refine unpF_loc.same l M _ _ u (Nat.zero_le _) (Nat.zero_le _) h (fun i hi => ?_) ?_ hu
 ·have hi : i < u.at_ := hi
  unfold rb
  rw [gt_append, if_pos (by omega)]
 ·show u.at_ ≤ _
  rw [List.length_append]
  omega
theorem all_full {l : List F} {M : Nat} {u : Un} (h : unpF l M = .ok u) (h0 : 0 < u.out.length) : allF l (u.out.length - 1) = .error 6 := by
 have h2 : unpF l (u.out.length - 1) = .error 6 := unpF_loc.full l M _ u (Nat.zero_le _) (Nat.zero_le _) h (Nat.zero_le _) (by show _ < u.out.length; omega)
 unfold allF
 rw [h2]
 rfl
theorem drop_mid (x y : List F) : ((x ++ y).drop x.length).take (x.length + y.length - x.length) = y := by
 rw [List.drop_left, Nat.add_sub_cancel_left, List.take_length]
set_option maxHeartbeats 8000000 in
theorem walk_WholePacks (w : World) (ht : Tabs w) (A : Option Addr) (n ca : Nat) (l : List F) (hl : RowIn w A n ca l) (B : Option Addr) (m cb : Nat) (k : List F) (hk : RowIn w B m cb k) (a : Int) (hwa : (Lit.int .i64 a).wf = true) (b : Int) (hwb : (Lit.int .i64 b).wf = true) :
  Calls Tryz.prog 8 #[.slice A n ca, .slice B m cb, .int .i64 a, .int .i64 b] w fun e w' => e = .returned (.bool true) ∧ Below w.heap.size w w' := by
 have HT := Lib.hid ht
 have HL := Lib.hid hl
 have HLN := Lib.hid hl.row.len
 have HK := Lib.hid hk
 have HKN := Lib.hid hk.row.len
 clear ht hl hk hwa hwb
 by_cases hn : (600 : Int) < (n : Int)
 ·go_enter Tryz.func8, Tryz.ntmps8
  go_wp2_with fail
  refine (soundPack_c w HT.out).mono ?_
  rintro e w1 ⟨rfl, hb⟩
  go_wp2
  go_ret
  exact ⟨rfl, hb⟩
 by_cases hm : (600 : Int) < (m : Int)
 ·go_enter Tryz.func8, Tryz.ntmps8
  go_wp2_with fail
  refine (soundPack_c w HT.out).mono ?_
  rintro e w1 ⟨rfl, hb⟩
  go_wp2
  go_ret
  exact ⟨rfl, hb⟩
 have hn6 : n ≤ 600 := by omega
 have hm6 : m ≤ 600 := by omega
 obtain ⟨lev, hlev⟩ : ∃ lev : Nat, min (max a 0) 9 = (lev : Int) := ⟨(min (max a 0) 9).toNat, by omega⟩
 have HLEV := Lib.hid hlev
 obtain ⟨lew, hlew⟩ : ∃ lev : Nat, min (max b 0) 9 = (lev : Int) := ⟨(min (max b 0) 9).toNat, by omega⟩
 have HLEW := Lib.hid hlew
 obtain ⟨i0, hi, hz0, hz1, hz2⟩ := info_parts info_u8
 have HS : Hid (∀ W, Calls Tryz.prog 19 #[.int .i64 (n : Int)] W fun e w' => e = .returned (.int .i64 (n + 5 : Nat)) ∧ W = w') := fun W => by
  have := StoredSize_c (n : Int) W
  rw [sts_nat (by omega), sts_small (by omega)] at this
  exact this
 clear hlev hlew
 go_enter Tryz.func8, Tryz.ntmps8
 go_wp2_with fail
 refine (soundPack_c w HT.out).mono ?_
 rintro e w1 ⟨rfl, hb⟩
 have HB1 := Lib.hid hb
 clear hb
 go_wp2_with fail
 refine (PackE_c w1 (HT.out.below HB1.out) A n ca l (HL.out.below HB1.out) (by omega) a lev HLEV.out).mono ?_
 rintro e w2 ⟨A2, n2, c2, Y, rfl, hY, hn2, hown2, hb2⟩
 have hl65 : l.length ≤ 65535 := by rw [HLN.out]; omega
 have hk65 : k.length ≤ 65535 := by rw [HKN.out]; omega
 have hnl := hY.len hl65
 rw [← hn2, HLN.out] at hnl
 have hU := hY.un (M := n) hl65 (by rw [HLN.out]; omega)
 have HN2 := Lib.hid hn2
 have HO2 := Lib.hid hown2
 have HB2 := Lib.hid (HB1.out.trans (hb2.mono HB1.out.size))
 clear hY hn2 hown2 hb2 HB1
 go_wp2_with fail
 refine (PackE_c w2 (HT.out.below HB2.out) B m cb k (HK.out.below HB2.out) (by omega) b lew HLEW.out).mono ?_
 rintro e w3 ⟨A3, n3, c3, Z, rfl, hZ, hn3, hown3, hb3⟩
 have hml := hZ.len hk65
 rw [← hn3, HKN.out] at hml
 have hV := hZ.un (M := m) hk65 (by rw [HKN.out]; omega)
 have hpos : 0 < n3 := by rw [hn3]; have := unpF_pos hV; omega
 have HV := Lib.hid (allF_pack hV)
 have HUB := Lib.hid (un_behind (m := pack Z) hU (by show l.length ≤ n; rw [HLN.out]; omega))
 have HN3 := Lib.hid hn3
 have HO3 := Lib.hid hown3
 have HO23 := Lib.hid (own_below HO2.out hb3)
 have HB3 := Lib.hid (HB2.out.trans (hb3.mono HB2.out.size))
 clear hZ hn3 hown3 hb3 HB2 HO2 hV
 have HFU : Hid (0 < n → allF (pack Y) (n - 1) = .error 6) := fun h => by
  have h2 := all_full hU (by show 0 < l.length; rw [HLN.out]; exact h)
  rw [← HLN.out]
  exact h2
 clear hU
 go_wp2_with fail
 refine (Copy_c A2 n2 c2 (pack Y) w3 (Row.of_own HO23.out) (by omega)).mono ?_
 rintro e w4 ⟨A4, c4, rfl, hown4, hb4⟩
 have HO4 := Lib.hid hown4
 have HR23 := Lib.hid (Row.of_own HO23.out)
 have HO34 := Lib.hid (own_below HO3.out hb4)
 have HB4 := Lib.hid (HB3.out.trans (hb4.mono HB3.out.size))
 have hs34 : w3.heap.size ≤ w4.heap.size := hb4.size
 have HB34 := Lib.hid hb4
 clear hown4 hb4 HO23 HO3
 go_wp2_with (first
  | (at_builtin
     refine wpList_append_row i0 hi hz0 hz1 hz2 rfl _ _ rfl w3.heap.size (.slice A4 n2 c4) n2 (cs (pack Y)) rfl HO4.out A3 n3 c3 (pack Z) rfl (Row.of_own HO34.out) (by omega) hs34 ?_
     intro v5 w5 hL5
     obtain ⟨A5, c5, rfl, hown5, hg5, hnw5⟩ := hL5))
 have HB35 := HB34.out.grown hg5 hs34 (fun k hk => (HO4.out.lt k hk).1)
 have hown5b : w5.ownsRow w3.heap.size 5 1 (.slice A5 (n2 + n3) c5) (n2 + n3) (cs (pack Y ++ pack Z)) := by rw [cs_append]; exact hown5
 have HR5 := Lib.hid (Row.of_own hown5b)
 have HI5 := Lib.hid (own_in hown5b)
 have HR25 := Lib.hid (HR23.out.below HB35)
 have HB5 := Lib.hid (HB3.out.trans (HB35.mono HB3.out.size))
 clear hown5 hg5 hnw5 hown5b HB35 HO4 HO34 HB4 HB34 HB3 HR23
 refine (Unpack_c w5 (HT.out.below HB5.out) A5 (n2 + n3) c5 _ HR5.out (by omega) (n : Int) n (by omega) (by omega)).mono ?_
 rintro e w6 hU6
 rw [HUB.out] at hU6
 rcases hU6 with ⟨z, h1, _⟩ | ⟨u, A6, n6, c6, h1, rfl, hown6, hb6⟩
 ·cases h1
 injection h1 with h1
 subst h1
 obtain rfl : n6 = n := by have := own_len hown6; rw [show (Un.mk Y.length l).out = l from rfl, HLN.out] at this; exact this.symm
 have HR6 : Hid (Row w6 A6 n6 l) := Row.of_own hown6
 have HI6 := Lib.hid (HI5.out.below hb6)
 have HR26 := Lib.hid (HR25.out.below hb6)
 have HB6 := Lib.hid (HB5.out.trans (hb6.mono HB5.out.size))
 have hq : (((Un.mk Y.length l).at_ + 7) / 8 : Nat) = n2 := by rw [HN2.out, pack_length]
 rw [hq]
 have hz : ((n2 : Int) != (n2 : Int)) = false := by simp
 clear hown6 hb6 HB5 HR5 HI5 HR25 hq HUB
 go_wp2_with fail
 refine (Same_c A6 A n6 c6 ca l l w6 HR6.out (HL.out.below HB6.out).row rfl).mono ?_
 rintro e w7 ⟨rfl, q, rfl⟩
 have HB7 := Lib.hid (below_drewN HB6.out q)
 have HI7 := Lib.hid (HI6.out.drewN q)
 have HR27 := Lib.hid (HR26.out.drewN q)
 generalize w6.drewN q = w7 at *
 clear HB6 HI6 HR26 HR6
 go_wp2_with fail
 refine (HS.out w7).mono ?_
 rintro e _ ⟨rfl, rfl⟩
 have hgt : ¬ ((n6 + 5 : Nat) : Int) < (n2 : Int) := by omega
 have hgt2 : ¬ (n6 : Int) + 5 < (n2 : Int) := by omega
 have hc5 : n2 + n3 ≤ c5 := HI7.out.le
 have hcne : ¬ c5 = n2 := by omega
 have hcn2 : (n2 : Int) ≤ (c5 : Int) := by omega
 have HIS := Lib.hid ((HI7.out.slice (a := n2) (M := n2 + n3) (by omega) (Nat.le_refl _)).2 hcne)
 have HRS : Hid (Row w7 (A5.map fun x => x.add n2) n3 (pack Z)) := by
  have h := HIS.out.row
  rw [show n2 + n3 - n2 = n3 by omega] at h
  have e : ((pack Y ++ pack Z).drop n2).take n3 = pack Z := by rw [HN2.out, HN3.out, List.drop_left, List.take_length]
  rwa [e] at h
 clear HIS HI7
 go_wp2_with fail
 refine (All_c w7 (HT.out.below HB7.out) _ n3 _ (pack Z) HRS.out (by omega) (m : Int) m (by omega) (by omega)).mono ?_
 rintro e w8 (⟨z, g1, _⟩ | ⟨o8, A8, n8, c8, g1, rfl, hown8, hb8⟩)
 ·rw [HV.out] at g1; cases g1
 rw [HV.out] at g1
 injection g1 with g1
 subst g1
 obtain rfl : n8 = m := by have := own_len hown8; rw [HKN.out] at this; exact this.symm
 have HR8 := Lib.hid (Row.of_own hown8)
 have HR28 := Lib.hid (HR27.out.below hb8)
 have HB8 := Lib.hid (HB7.out.trans (hb8.mono HB7.out.size))
 have HMX := Lib.hid (show max ((n6 : Int) - 1) 0 = ((n6 - 1 : Nat) : Int) by omega)
 clear hown8 hb8 HB7 HRS HR27 HV
 have HAL := Lib.hid (All_c w8 (HT.out.below HB8.out) A2 n2 c2 (pack Y) HR28.out (by omega) ((n6 : Int) - 1) (n6 - 1) HMX.out (by omega))
 have hz5 : ((n6 : Int) == 0) = decide (n6 = 0) := by rw [Bool.eq_iff_iff]; simp
 by_cases h0 : n6 = 0
 ·have hz6 : ((n6 : Int) == 0) = true := by rw [beq_iff_eq]; omega
  clear h0 hz5
  go_wp2_with fail
  refine HAL.out.mono ?_
  rintro e w9 (⟨z, _, rfl, hb9⟩ | ⟨o9, A9, n9, c9, _, rfl, _, hb9⟩)
  all_goals
   have HR9 := Lib.hid (HR8.out.below hb9)
   have HB9 := Lib.hid (HB8.out.trans (hb9.mono HB8.out.size))
   clear hb9
   go_wp2_with (go_at_call 14; refine (Same_c _ _ _ _ _ _ _ _ HR9.out (HK.out.below HB9.out).row rfl).mono ?_; rintro e w10 ⟨rfl, q10, rfl⟩)
   go_ret
   exact ⟨rfl, below_drewN HB9.out q10⟩
 ·have hz6 : ((n6 : Int) == 0) = false := by rw [beq_eq_false_iff_ne]; omega
  have HF6 := Lib.hid (HFU.out (by omega))
  clear h0 hz5
  go_wp2_with fail
  refine HAL.out.mono ?_
  rintro e w9 (⟨z, g1, rfl, hb9⟩ | ⟨o9, A9, n9, c9, g1, rfl, _, hb9⟩)
  ·rw [HF6.out] at g1
   injection g1 with g1
   subst g1
   have HR9 := Lib.hid (HR8.out.below hb9)
   have HB9 := Lib.hid (HB8.out.trans (hb9.mono HB8.out.size))
   clear hb9
   go_wp2_with (go_at_call 14; refine (Same_c _ _ _ _ _ _ _ _ HR9.out (HK.out.below HB9.out).row rfl).mono ?_; rintro e w10 ⟨rfl, q10, rfl⟩)
   go_ret
   exact ⟨rfl, below_drewN HB9.out q10⟩
  ·rw [HF6.out] at g1; cases g1
end Go.Proofs.YtldgdofefcehnaaGreatDoor
