/-
  LAW 19: CentralRows (WRITTEN by wip/gen19t.py). No conditions (but that the table of months lies as the program's text lays it).
-/
import Derived.Test.YtacllgglpjdobaaDoorLaw19
import Derived.Deep.CutRange
namespace Go.Proofs.YtacllgglpjdobaaDoor
open Go.RowKit
set_option maxRecDepth 100000
set_option linter.unusedVariables false
set_option linter.unusedSimpArgs false

set_option maxHeartbeats 1000000 in
/-- two headers that aren't the same: Go's comparison tells so -/
theorem rc_neq (a b : Rc) (hne : a ≠ b) (w : World) : (binOp .eql 29 (rcV a) (rcV b)).run Tryd.prog w = .ok (.bool false) w := by
  obtain ⟨⟨mm, ⟨y, mo, dd, hh, mi, s⟩, sum, p, z, nm⟩, k, o⟩ := a
  obtain ⟨⟨mm', ⟨y', mo', dd', hh', mi', s'⟩, sum', p', z', nm'⟩, k', o'⟩ := b
  unfold rcV rcC
  dsimp only
  go_simp
  intro h1 h2 h3 h4 h5 h6 h7 h8 h9 h10 h11 h12 h13
  have k8 : sum = sum' := by omega
  have k9 : p = p' := by omega
  have k10 : z = z' := by omega
  have k11 : nm = nm' := by
    rw [ByteArray.toList_eq, ByteArray.toList_eq] at h11
    simpa [S] using h11
  have k12 : k = k' := by omega
  have k13 : o = o' := by omega
  subst h1 h2 h3 h4 h5 h6 h7 k8 k9 k10 k11 k12 k13
  exact hne rfl
set_option maxHeartbeats 8000000 in
theorem walk_CentralRows (w : World) (ht : TabM w) (a : Rc) (hw : RcW a) (hm : a.h.nm.length ≤ maxLen) (b : Rc) (hw2 : RcW b) (hm2 : b.h.nm.length ≤ maxLen) :
    Calls Tryd.prog 6 #[rcV a, rcV b] w fun e w' => e = .returned (.bool true) ∧ Below w.heap.size w w' := by
  obtain ⟨i0, hi, hz0, hz1, hz2⟩ := info_parts info_u8
  have HT := Lib.hid ht
  have HK := Lib.hid (Blk.new w 29 (rcC a))
  have HJ := Lib.hid (Blk.new (w.alloc (.cells (rcC a) 29)) 29 (rcC b))
  have HBL := Lib.hid (((Below.refl w.heap.size w).alloc (Nat.le_refl _) (.cells (rcC a) 29)).alloc (by simp) (.cells (rcC b) 29))
  have HK2 := Lib.hid (HK.out.below HK.out.lt ((Below.refl _ _).alloc (Nat.le_refl _) (.cells (rcC b) 29)))
  have HAL := Lib.hid alive19_c
  have hsS := S_size a.h.nm
  have hsT := S_size b.h.nm
  simp only [World.size_alloc] at HJ
  by_cases hb : a.h.nm.length ≤ 300 ∧ b.h.nm.length ≤ 300
  · by_cases hka : chkH a.h = 0
    · by_cases hkb : chkH b.h = 0
      · have hXL : (crX a).length = 46 + a.h.nm.length + bh a := cdB_length a _ _ _
        have hYL : (crX b).length = 46 + b.h.nm.length + bh b := cdB_length b _ _ _
        have HW := Lib.hid (WriteC_yes a hw hka _ hXL.symm)
        have HV := Lib.hid (WriteC_yes b hw2 hkb _ hYL.symm)
        have hp1 := prC_crX a (crX b) hw hka
        have hp2 := prC_crX b [] hw2 hkb
        rw [List.append_nil] at hp2
        have HP1 := Lib.hid (fun A c W hW hT => ParseC_c A ((crX a).length + (crX b).length) c (crX a ++ crX b) W hW (by rw [hXL, hYL]; have := bh_le a; have := bh_le b; omega) hT)
        have HP2 := Lib.hid (fun A c W hW hT => ParseC_c A (crX b).length c (crX b) W hW (by rw [hYL]; have := bh_le b; omega) hT)
        rw [hp1] at HP1
        rw [hp2] at HP2
        have hin : crX a = crX b → a = b := fun e => crX_inj hw hw2 hka hkb e
        have hX1 : 46 ≤ (crX a).length ∧ (crX a).length ≤ 1000 := by rw [hXL]; have := bh_le a; omega
        have hY1 : 46 ≤ (crX b).length ∧ (crX b).length ≤ 1000 := by rw [hYL]; have := bh_le b; omega
        have i1 : ¬ (300 : Int) < ((S a.h.nm).size : Int) := by omega
        have i2 : ¬ (300 : Int) < ((S b.h.nm).size : Int) := by omega
        have j1 : decide ((300 : Int) < ((S a.h.nm).size : Int)) = false := decide_eq_false i1
        have j2 : decide ((300 : Int) < ((S b.h.nm).size : Int)) = false := decide_eq_false i2
        have HIN := Lib.hid hin
        have hfit : a.h.pk < 4294967295 ∧ a.h.sz < 4294967295 ∧ a.o < 4294967295 ∧ a.d < 65535 → szH a.h + 16 = ((crX a).length : Int) := fun ⟨f1, f2, f3, f4⟩ => by
          have hb0 : bh a = 0 := by rw [bh_ndG]; unfold bS bP bO bD; rw [decide_eq_false (by omega), decide_eq_false (by omega), decide_eq_false (by omega), decide_eq_false (by omega)]; rfl
          have hg0 : grt a.h = false := by unfold grt; exact decide_eq_false (by omega)
          rw [hXL, hb0]
          unfold szH
          rw [hg0]
          simp
          omega
        have HSL := Lib.hid (SizeL_c a.h (by omega))
        have hszl : 0 ≤ szH a.h ∧ szH a.h ≤ 100000 := by unfold szH; constructor <;> (split <;> omega)
        obtain ⟨HS, hHS⟩ : ∃ HS : Int, szH a.h = HS := ⟨_, rfl⟩
        rw [hHS] at HSL hfit hszl
        have HFIT := Lib.hid hfit
        clear hfit hHS
        have HSX := Lib.hid (rfl : (crX a).length = (crX a).length)
        obtain ⟨bq, hbq⟩ : ∃ bq, decide (crX a = crX b) = bq := ⟨_, rfl⟩
        have heq : bq = true → a = b := fun e => hin (of_decide_eq_true (hbq.trans e))
        have hne : bq = false → a ≠ b := fun e e2 => by
          rw [e2] at hbq
          rw [decide_eq_true rfl] at hbq
          rw [← hbq] at e
          cases e
        have HEQ := Lib.hid heq
        have HNE := Lib.hid hne
        have HBQ := Lib.hid hbq
        clear hw hw2 ht hsS hsT hb HK hka hkb hp1 hp2 hin hXL hYL i1 i2 heq hne hbq hm hm2 HSX HIN
        generalize crX a = X at *
        generalize crX b = Y at *
        obtain ⟨N, hN⟩ : ∃ N, X.length = N := ⟨_, rfl⟩
        obtain ⟨M, hM⟩ : ∃ M, Y.length = M := ⟨_, rfl⟩
        rw [hN] at HW HP1 hX1 HFIT
        rw [hM] at HV HP1 HP2 hY1
        have HNN := Lib.hid hN
        have HMM := Lib.hid hM
        clear hN hM
        obtain ⟨⟨mm, ⟨y, mo, dd, hh, mi, s⟩, sum, p, z, nm⟩, k, o⟩ := a
        obtain ⟨⟨mm', ⟨y', mo', dd', hh', mi', s'⟩, sum', p', z', nm'⟩, k', o'⟩ := b
        unfold rcV rcC at *
        unfold hdV hdC at HSL
        dsimp only at *
        go_enter Tryd.func6, Tryd.ntmps6
        go_wp2_with fail
        refine (HAL.out _ ((HT.out.alloc _).alloc _)).mono ?_
        rintro e W1 ⟨rfl, hb1⟩
        have K1 := Lib.hid (HK2.out.below HK2.out.lt hb1)
        have J1 := Lib.hid (HJ.out.below HJ.out.lt hb1)
        have B1 := Lib.hid (HBL.out.trans (hb1.mono HBL.out.size))
        clear hb1 HK2 HJ HBL HAL
        have c10 := (K1.out.cell 10).trans rfl
        have d10 := (J1.out.cell 10).trans rfl
        have q1 := ld_rc K1.out rfl
        go_wp2_with (with_reducible refine wpList_load_var _ _ (by with_unfolding_all rfl) q1 ?_)
        refine (HW.out _ (HT.out.below B1.out)).mono ?_
        rintro e W2 ⟨g2, d2, rfl, hown2, hb2⟩
        have K2 := Lib.hid (K1.out.below K1.out.lt hb2)
        have J2 := Lib.hid (J1.out.below J1.out.lt hb2)
        have B2 := Lib.hid (B1.out.trans (hb2.mono B1.out.size))
        have R2 := Lib.hid (Row.of_own hown2)
        clear hb2 K1 J1 B1 hown2 c10 d10 q1
        have q2 := ld_rc J2.out rfl
        go_wp2_with (with_reducible refine wpList_load_var _ _ (by with_unfolding_all rfl) q2 ?_)
        refine (HV.out _ (HT.out.below B2.out)).mono ?_
        rintro e W3 ⟨g3, d3, rfl, hown3, hb3⟩
        have K3 := Lib.hid (K2.out.below K2.out.lt hb3)
        have J3 := Lib.hid (J2.out.below J2.out.lt hb3)
        have B3 := Lib.hid (B2.out.trans (hb3.mono B2.out.size))
        have R3 := Lib.hid (R2.out.below hb3)
        have S3 := Lib.hid (Row.of_own hown3)
        clear hb3 K2 J2 B2 R2 hown3 q2
        go_wp2_with fail
        refine (Copy_c _ N d2 X _ R3.out (by omega)).mono ?_
        rintro e W4 ⟨A4, d4, rfl, hown4, hb4⟩
        have S4 := Lib.hid (S3.out.below hb4)
        have O4 := Lib.hid hown4
        have H34 := Lib.hid hb4
        clear hb4 hown4
        go_wp2_with (refine wpList_append_row i0 hi hz0 hz1 hz2 (by rfl) (.tmp 48) (.tmp 49) (by rfl) W3.heap.size (.slice A4 N d4) N (cs X) (by simp [go_sem]) O4.out (some ⟨g3, 0, none⟩) M d3 Y (by simp [go_sem]) S4.out (by omega) H34.out.size ?_; intro v5 W5 hL; obtain ⟨A5, d5, rfl, hown5, hg5, hnw5⟩ := hL)
        have h45 : Below W3.heap.size W4 W5 := (Below.refl W3.heap.size W4).grown hg5 H34.out.size (fun k hk => (O4.out.lt k hk).1)
        have h35 := H34.out.trans h45
        rw [← cs_append] at hown5
        have hown6 := own_base2 hown5 (show 0 ≤ W3.heap.size by omega)
        obtain ⟨g5, rfl, _, _⟩ := own_addr hown5 (by omega)
        have I5 := Lib.hid (own_in hown5)
        have cap5 := (own_cap hown5).1
        have K5 := Lib.hid (K3.out.below K3.out.lt h35)
        have J5 := Lib.hid (J3.out.below J3.out.lt h35)
        have B5 := Lib.hid (B3.out.trans (h35.mono B3.out.size))
        have R5 := Lib.hid (R3.out.below h35)
        have S5 := Lib.hid (S3.out.below h35)
        clear hown6 hg5 hnw5 h45 h35 K3 J3 B3 R3 S3 S4 O4 H34 hown5
        refine (HP1.out (some ⟨g5, 0, none⟩) d5 W5 I5.out (HT.out.below B5.out)).mono ?_
        rintro e W6 ⟨rfl, hb6⟩
        have hba := hb6.alloc hb6.size (.cells #[.int .i64 mm, .int .i64 y, .int .i64 mo, .int .i64 dd, .int .i64 hh, .int .i64 mi, .int .i64 s, .int .u32 sum, .int .u64 p, .int .u64 z, .string (S nm), .int .u32 k, .int .u64 o] 29)
        have E6 := Lib.hid (Blk.new W6 29 #[.int .i64 mm, .int .i64 y, .int .i64 mo, .int .i64 dd, .int .i64 hh, .int .i64 mi, .int .i64 s, .int .u32 sum, .int .u64 p, .int .u64 z, .string (S nm), .int .u32 k, .int .u64 o])
        have K6 := Lib.hid (K5.out.below K5.out.lt hba)
        have J6 := Lib.hid (J5.out.below J5.out.lt hba)
        have B6 := Lib.hid (B5.out.trans (hba.mono B5.out.size))
        have R6 := Lib.hid (R5.out.below hba)
        have S6 := Lib.hid (S5.out.below hba)
        have I6 := Lib.hid (I5.out.below hba)
        clear hb6 hba K5 J5 B5 R5 S5 I5
        obtain ⟨e0, e1, e2, e3, e4, e5, e6, e7, e8, e9, e10, e11, e12⟩ := elC E6.out
        obtain ⟨f0, f1, f2, f3, f4, f5, f6, f7, f8, f9, f10, f11, f12⟩ := elC K6.out
        have l1 : (N : Int) ≤ (d5 : Int) := by omega
        have l2 : ¬ d5 = N := by omega
        have sl := (I6.out.slice (a := N) (M := N + M) (by omega) (by omega)).2 (by omega)
        rw [show N + M - N = M by omega, List.drop_append, HNN.out, Nat.sub_self, List.drop_eq_nil_of_le (by rw [HNN.out]; exact Nat.le_refl _), List.nil_append, List.drop_zero, List.take_of_length_le (by rw [HMM.out]; exact Nat.le_refl _)] at sl
        have sl2 : RowIn (W6.alloc (.cells #[.int .i64 mm, .int .i64 y, .int .i64 mo, .int .i64 dd, .int .i64 hh, .int .i64 mi, .int .i64 s, .int .u32 sum, .int .u64 p, .int .u64 z, .string (S nm), .int .u32 k, .int .u64 o] 29)) (some ⟨g5, N, none⟩) M (d5 - N) Y := by (have n0 : N ≠ 0 := (by omega)); simpa [Addr.add, n0] using sl
        have SL := Lib.hid sl2
        have l3 : N + M - N = M := by omega
        have l4 : ((N : Int) + (M : Int) - (N : Int)).toNat = M := by omega
        clear sl sl2
        go_wp2_with fail
        refine (HP2.out _ _ _ SL.out (HT.out.below B6.out)).mono ?_
        rintro e W7 ⟨rfl, hb7⟩
        have hba := hb7.alloc hb7.size (.cells #[.int .i64 mm', .int .i64 y', .int .i64 mo', .int .i64 dd', .int .i64 hh', .int .i64 mi', .int .i64 s', .int .u32 sum', .int .u64 p', .int .u64 z', .string (S nm'), .int .u32 k', .int .u64 o'] 29)
        have E8 := Lib.hid (Blk.new W7 29 #[.int .i64 mm', .int .i64 y', .int .i64 mo', .int .i64 dd', .int .i64 hh', .int .i64 mi', .int .i64 s', .int .u32 sum', .int .u64 p', .int .u64 z', .string (S nm'), .int .u32 k', .int .u64 o'])
        have K8 := Lib.hid (K6.out.below K6.out.lt hba)
        have J8 := Lib.hid (J6.out.below J6.out.lt hba)
        have B8 := Lib.hid (B6.out.trans (hba.mono B6.out.size))
        have R8 := Lib.hid (R6.out.below hba)
        have S8 := Lib.hid (S6.out.below hba)
        clear hb7 hba K6 J6 B6 R6 S6 I6 SL E6 e0 e1 e2 e3 e4 e5 e6 e7 e8 e9 e10 e11 e12 f0 f1 f2 f3 f4 f5 f6 f7 f8 f9 f10 f11 f12
        obtain ⟨fb, hfb⟩ : ∃ fb : Bool, fb = decide (p < 4294967295 ∧ z < 4294967295 ∧ o < 4294967295 ∧ k < 65535) := ⟨_, rfl⟩
        have HFB : Hid (fb = true ↔ p < 4294967295 ∧ z < 4294967295 ∧ o < 4294967295 ∧ k < 65535) := by unfold Hid; rw [hfb, decide_eq_true_iff]
        clear hfb
        go_upto_region 14 with fail
        obtain ⟨W9, hW9⟩ : ∃ W9, W9 = W7.alloc (.cells #[.int .i64 mm', .int .i64 y', .int .i64 mo', .int .i64 dd', .int .i64 hh', .int .i64 mi', .int .i64 s', .int .u32 sum', .int .u64 p', .int .u64 z', .string (S nm'), .int .u32 k', .int .u64 o'] 29) := ⟨_, rfl⟩
        rw [← hW9] at E8 K8 J8 B8 R8 S8 ⊢
        have E9 := E8
        have K9 := K8
        have J9 := J8
        have B9 := B8
        clear hW9 E8 K8 J8 B8
        go_cut [16] from 78 to 97 (fun s16 wx => s16 = .bool fb ∧ W9 = wx)
        case first =>
          have c8 := (K9.out.cell 8).trans (show _ = some (Value.int .u64 (p : Nat)) from rfl)
          have c9 := (K9.out.cell 9).trans (show _ = some (Value.int .u64 (z : Nat)) from rfl)
          have c11 := (K9.out.cell 11).trans (show _ = some (Value.int .u32 (k : Nat)) from rfl)
          have c12 := (K9.out.cell 12).trans (show _ = some (Value.int .u64 (o : Nat)) from rfl)
          obtain ⟨t1, ht1⟩ : ∃ t : Bool, decide ((p : Int) < 4294967295) = t := ⟨_, rfl⟩
          obtain ⟨t2, ht2⟩ : ∃ t : Bool, decide ((z : Int) < 4294967295) = t := ⟨_, rfl⟩
          obtain ⟨t3, ht3⟩ : ∃ t : Bool, decide ((o : Int) < 4294967295) = t := ⟨_, rfl⟩
          obtain ⟨t4, ht4⟩ : ∃ t : Bool, decide ((k : Int) < 65535) = t := ⟨_, rfl⟩
          have hfv : fb = (t1 && t2 && t3 && t4) := by
            rw [← ht1, ← ht2, ← ht3, ← ht4]
            cases fb
            · symm
              rw [Bool.eq_false_iff]
              intro e
              simp only [Bool.and_eq_true, decide_eq_true_iff] at e
              exact absurd (HFB.out.2 (by omega)) (by decide)
            · symm
              have := HFB.out.1 rfl
              simp only [Bool.and_eq_true, decide_eq_true_iff]
              omega
          have HFV := Lib.hid hfv
          clear hfv HFB
          cases t1 <;> (try cases t2) <;> (try cases t3) <;> (try cases t4)
          all_goals
            have hfv := HFV.out
            simp only [Bool.and_true, Bool.and_false, Bool.true_and, Bool.false_and] at hfv
            subst hfv
            clear HFV
            go_wp2_with fail
            go_meet
            case rel => exact ⟨rfl, rfl⟩
        case rest =>
        obtain ⟨rfl, hwc⟩ := hcut
        subst hwc
        have HSM : Hid (∀ c1 c2, Calls Tryd.prog 12 #[.slice (some ⟨g2, 0, none⟩) N c1, .slice (some ⟨g3, 0, none⟩) M c2] W9.drew fun e w' => e = .returned (.bool bq) ∧ ∃ q2, w' = W9.drew.drewN q2) := fun c1 c2 => by
          have := SameA_c (some ⟨g2, 0, none⟩) (some ⟨g3, 0, none⟩) N M c1 c2 X Y _ (R8.out.drewN 1) (S8.out.drewN 1)
          rw [HBQ.out] at this
          exact this
        have ED : Hid (Blk W9.drew W7.heap.size 29 #[.int .i64 mm', .int .i64 y', .int .i64 mo', .int .i64 dd', .int .i64 hh', .int .i64 mi', .int .i64 s', .int .u32 sum', .int .u64 p', .int .u64 z', .string (S nm'), .int .u32 k', .int .u64 o']) := (show Blk W9 W7.heap.size 29 #[.int .i64 mm', .int .i64 y', .int .i64 mo', .int .i64 dd', .int .i64 hh', .int .i64 mi', .int .i64 s', .int .u32 sum', .int .u64 p', .int .u64 z', .string (S nm'), .int .u32 k', .int .u64 o'] from E9.out)
        have KD : Hid (Blk W9.drew w.heap.size 29 #[.int .i64 mm, .int .i64 y, .int .i64 mo, .int .i64 dd, .int .i64 hh, .int .i64 mi, .int .i64 s, .int .u32 sum, .int .u64 p, .int .u64 z, .string (S nm), .int .u32 k, .int .u64 o]) := (show Blk W9 w.heap.size 29 #[.int .i64 mm, .int .i64 y, .int .i64 mo, .int .i64 dd, .int .i64 hh, .int .i64 mi, .int .i64 s, .int .u32 sum, .int .u64 p, .int .u64 z, .string (S nm), .int .u32 k, .int .u64 o] from K9.out)
        have JD : Hid (Blk W9.drew (w.heap.size + 1) 29 #[.int .i64 mm', .int .i64 y', .int .i64 mo', .int .i64 dd', .int .i64 hh', .int .i64 mi', .int .i64 s', .int .u32 sum', .int .u64 p', .int .u64 z', .string (S nm'), .int .u32 k', .int .u64 o']) := (show Blk W9 (w.heap.size + 1) 29 #[.int .i64 mm', .int .i64 y', .int .i64 mo', .int .i64 dd', .int .i64 hh', .int .i64 mi', .int .i64 s', .int .u32 sum', .int .u64 p', .int .u64 z', .string (S nm'), .int .u32 k', .int .u64 o'] from J9.out)
        clear R8 S8
        go_upto_region 15 with fail
        cases bq
        case true =>
          cases HEQ.out rfl
          cases fb
          case false =>
            refine wp_region_held_drew (S := fun W' => W'.cell? ⟨W7.heap.size, 0, none⟩ = some (Value.int .i64 mm) ∧ W'.cell? ⟨W7.heap.size, 1, none⟩ = some (Value.int .i64 y) ∧ W'.cell? ⟨W7.heap.size, 2, none⟩ = some (Value.int .i64 mo) ∧ W'.cell? ⟨W7.heap.size, 3, none⟩ = some (Value.int .i64 dd) ∧ W'.cell? ⟨W7.heap.size, 4, none⟩ = some (Value.int .i64 hh) ∧ W'.cell? ⟨W7.heap.size, 5, none⟩ = some (Value.int .i64 mi) ∧ W'.cell? ⟨W7.heap.size, 6, none⟩ = some (Value.int .i64 s) ∧ W'.cell? ⟨W7.heap.size, 7, none⟩ = some (Value.int .u32 sum) ∧ W'.cell? ⟨W7.heap.size, 8, none⟩ = some (Value.int .u64 p) ∧ W'.cell? ⟨W7.heap.size, 9, none⟩ = some (Value.int .u64 z) ∧ W'.cell? ⟨W7.heap.size, 10, none⟩ = some (Value.string (S nm)) ∧ W'.cell? ⟨W7.heap.size, 11, none⟩ = some (Value.int .u32 k) ∧ W'.cell? ⟨W7.heap.size, 12, none⟩ = some (Value.int .u64 o) ∧ W'.cell? ⟨w.heap.size, 0, none⟩ = some (Value.int .i64 mm) ∧ W'.cell? ⟨w.heap.size, 1, none⟩ = some (Value.int .i64 y) ∧ W'.cell? ⟨w.heap.size, 2, none⟩ = some (Value.int .i64 mo) ∧ W'.cell? ⟨w.heap.size, 3, none⟩ = some (Value.int .i64 dd) ∧ W'.cell? ⟨w.heap.size, 4, none⟩ = some (Value.int .i64 hh) ∧ W'.cell? ⟨w.heap.size, 5, none⟩ = some (Value.int .i64 mi) ∧ W'.cell? ⟨w.heap.size, 6, none⟩ = some (Value.int .i64 s) ∧ W'.cell? ⟨w.heap.size, 7, none⟩ = some (Value.int .u32 sum) ∧ W'.cell? ⟨w.heap.size, 8, none⟩ = some (Value.int .u64 p) ∧ W'.cell? ⟨w.heap.size, 9, none⟩ = some (Value.int .u64 z) ∧ W'.cell? ⟨w.heap.size, 10, none⟩ = some (Value.string (S nm)) ∧ W'.cell? ⟨w.heap.size, 11, none⟩ = some (Value.int .u32 k) ∧ W'.cell? ⟨w.heap.size, 12, none⟩ = some (Value.int .u64 o) ∧ W'.cell? ⟨(w.heap.size + 1), 0, none⟩ = some (Value.int .i64 mm) ∧ W'.cell? ⟨(w.heap.size + 1), 1, none⟩ = some (Value.int .i64 y) ∧ W'.cell? ⟨(w.heap.size + 1), 2, none⟩ = some (Value.int .i64 mo) ∧ W'.cell? ⟨(w.heap.size + 1), 3, none⟩ = some (Value.int .i64 dd) ∧ W'.cell? ⟨(w.heap.size + 1), 4, none⟩ = some (Value.int .i64 hh) ∧ W'.cell? ⟨(w.heap.size + 1), 5, none⟩ = some (Value.int .i64 mi) ∧ W'.cell? ⟨(w.heap.size + 1), 6, none⟩ = some (Value.int .i64 s) ∧ W'.cell? ⟨(w.heap.size + 1), 7, none⟩ = some (Value.int .u32 sum) ∧ W'.cell? ⟨(w.heap.size + 1), 8, none⟩ = some (Value.int .u64 p) ∧ W'.cell? ⟨(w.heap.size + 1), 9, none⟩ = some (Value.int .u64 z) ∧ W'.cell? ⟨(w.heap.size + 1), 10, none⟩ = some (Value.string (S nm)) ∧ W'.cell? ⟨(w.heap.size + 1), 11, none⟩ = some (Value.int .u32 k) ∧ W'.cell? ⟨(w.heap.size + 1), 12, none⟩ = some (Value.int .u64 o)) (by kernel_rfl) ?_ (fun hHeld => ?_)
            · exact ⟨ED.out.cell 0, ED.out.cell 1, ED.out.cell 2, ED.out.cell 3, ED.out.cell 4, ED.out.cell 5, ED.out.cell 6, ED.out.cell 7, ED.out.cell 8, ED.out.cell 9, ED.out.cell 10, ED.out.cell 11, ED.out.cell 12, KD.out.cell 0, KD.out.cell 1, KD.out.cell 2, KD.out.cell 3, KD.out.cell 4, KD.out.cell 5, KD.out.cell 6, KD.out.cell 7, KD.out.cell 8, KD.out.cell 9, KD.out.cell 10, KD.out.cell 11, KD.out.cell 12, JD.out.cell 0, JD.out.cell 1, JD.out.cell 2, JD.out.cell 3, JD.out.cell 4, JD.out.cell 5, JD.out.cell 6, JD.out.cell 7, JD.out.cell 8, JD.out.cell 9, JD.out.cell 10, JD.out.cell 11, JD.out.cell 12⟩
            refine wpAnyH_take (i := 0) (oi := { dst := some 98, op := _, type := _, pos := _, after := _, guard := _ }) (v := ?_) rfl (by kernel_rfl) (by kernel_rfl) (by kernel_rfl) (fun _ _ _ h => h) (Or.inl ⟨by rfl, ?_⟩) (by assumption) ?_
            rotate_left
            · intro w' hSw
              try dsimp only at hSw
              go_simp
              try with_reducible rfl
            try simp only [Act.put, List.setIfInBounds_toArray, List.set_cons_zero, List.set_cons_succ]
            refine wpAnyH_take (i := 1) (oi := { dst := some 99, op := _, type := _, pos := _, after := _, guard := _ }) (v := ?_) rfl (by kernel_rfl) (by kernel_rfl) (by kernel_rfl) (fun _ _ _ h => h) (Or.inl ⟨by rfl, ?_⟩) (by assumption) ?_
            rotate_left
            · intro w' hSw
              try dsimp only at hSw
              go_simp
              try with_reducible rfl
            try simp only [Act.put, List.setIfInBounds_toArray, List.set_cons_zero, List.set_cons_succ]
            refine wpAnyH_take (i := 2) (oi := { dst := some 100, op := _, type := _, pos := _, after := _, guard := _ }) (v := ?_) rfl (by kernel_rfl) (by kernel_rfl) (by kernel_rfl) (fun _ _ _ h => h) (Or.inl ⟨by rfl, ?_⟩) (by assumption) ?_
            rotate_left
            · intro w' hSw
              try dsimp only at hSw
              go_simp
              try with_reducible rfl
            try simp only [Act.put, List.setIfInBounds_toArray, List.set_cons_zero, List.set_cons_succ]
            refine wpAnyH_take (i := 3) (oi := { dst := some 101, op := _, type := _, pos := _, after := _, guard := _ }) (v := ?_) rfl (by kernel_rfl) (by kernel_rfl) (by kernel_rfl) (fun _ _ _ h => h) (Or.inl ⟨by rfl, ?_⟩) (by assumption) ?_
            rotate_left
            · intro w' hSw
              try dsimp only at hSw
              go_simp
              try with_reducible rfl
            try simp only [Act.put, List.setIfInBounds_toArray, List.set_cons_zero, List.set_cons_succ]
            refine wpAnyH_take (i := 4) (oi := { dst := some 102, op := _, type := _, pos := _, after := _, guard := _ }) (v := ?_) rfl (by kernel_rfl) (by kernel_rfl) (by kernel_rfl) (fun _ _ _ h => h) (Or.inl ⟨by rfl, ?_⟩) (by assumption) ?_
            rotate_left
            · intro w' hSw
              try dsimp only at hSw
              go_simp
              try with_reducible rfl
            try simp only [Act.put, List.setIfInBounds_toArray, List.set_cons_zero, List.set_cons_succ]
            refine wpAnyH_take (i := 5) (oi := { dst := some 103, op := _, type := _, pos := _, after := _, guard := _ }) (v := ?_) rfl (by kernel_rfl) (by kernel_rfl) (by kernel_rfl) (fun _ _ _ h => h) (Or.inl ⟨by rfl, ?_⟩) (by assumption) ?_
            rotate_left
            · intro w' hSw
              try dsimp only at hSw
              go_simp
              try with_reducible rfl
            try simp only [Act.put, List.setIfInBounds_toArray, List.set_cons_zero, List.set_cons_succ]
            refine wpAnyH_take (i := 6) (oi := { dst := some 104, op := _, type := _, pos := _, after := _, guard := _ }) (v := ?_) rfl (by kernel_rfl) (by kernel_rfl) (by kernel_rfl) (fun _ _ _ h => h) (Or.inl ⟨by rfl, ?_⟩) (by assumption) ?_
            rotate_left
            · intro w' hSw
              try dsimp only at hSw
              go_simp
              try with_reducible rfl
            try simp only [Act.put, List.setIfInBounds_toArray, List.set_cons_zero, List.set_cons_succ]
            refine wpAnyH_take (i := 7) (oi := { dst := some 105, op := _, type := _, pos := _, after := _, guard := _ }) (v := ?_) rfl (by kernel_rfl) (by kernel_rfl) (by kernel_rfl) (fun _ _ _ h => h) (Or.inl ⟨by rfl, ?_⟩) (by assumption) ?_
            rotate_left
            · intro w' hSw
              try dsimp only at hSw
              go_simp
              try with_reducible rfl
            try simp only [Act.put, List.setIfInBounds_toArray, List.set_cons_zero, List.set_cons_succ]
            refine wpAnyH_take (i := 8) (oi := { dst := some 106, op := _, type := _, pos := _, after := _, guard := _ }) (v := ?_) rfl (by kernel_rfl) (by kernel_rfl) (by kernel_rfl) (fun _ _ _ h => h) (Or.inl ⟨by rfl, ?_⟩) (by assumption) ?_
            rotate_left
            · intro w' hSw
              try dsimp only at hSw
              go_simp
              try with_reducible rfl
            try simp only [Act.put, List.setIfInBounds_toArray, List.set_cons_zero, List.set_cons_succ]
            refine wpAnyH_take (i := 9) (oi := { dst := some 107, op := _, type := _, pos := _, after := _, guard := _ }) (v := ?_) rfl (by kernel_rfl) (by kernel_rfl) (by kernel_rfl) (fun _ _ _ h => h) (Or.inl ⟨by rfl, ?_⟩) (by assumption) ?_
            rotate_left
            · intro w' hSw
              try dsimp only at hSw
              go_simp
              try with_reducible rfl
            try simp only [Act.put, List.setIfInBounds_toArray, List.set_cons_zero, List.set_cons_succ]
            refine wpAnyH_take (i := 10) (oi := { dst := some 108, op := _, type := _, pos := _, after := _, guard := _ }) (v := ?_) rfl (by kernel_rfl) (by kernel_rfl) (by kernel_rfl) (fun _ _ _ h => h) (Or.inl ⟨by rfl, ?_⟩) (by assumption) ?_
            rotate_left
            · intro w' hSw
              try dsimp only at hSw
              go_simp
              try with_reducible rfl
            try simp only [Act.put, List.setIfInBounds_toArray, List.set_cons_zero, List.set_cons_succ]
            refine wpAnyH_take (i := 11) (oi := { dst := some 109, op := _, type := _, pos := _, after := _, guard := _ }) (v := ?_) rfl (by kernel_rfl) (by kernel_rfl) (by kernel_rfl) (fun _ _ _ h => h) (Or.inl ⟨by rfl, ?_⟩) (by assumption) ?_
            rotate_left
            · intro w' hSw
              try dsimp only at hSw
              go_simp
              try with_reducible rfl
            try simp only [Act.put, List.setIfInBounds_toArray, List.set_cons_zero, List.set_cons_succ]
            refine wpAnyH_take (i := 12) (oi := { dst := some 110, op := _, type := _, pos := _, after := _, guard := _ }) (v := ?_) rfl (by kernel_rfl) (by kernel_rfl) (by kernel_rfl) (fun _ _ _ h => h) (Or.inl ⟨by rfl, ?_⟩) (by assumption) ?_
            rotate_left
            · intro w' hSw
              try dsimp only at hSw
              go_simp
              try with_reducible rfl
            try simp only [Act.put, List.setIfInBounds_toArray, List.set_cons_zero, List.set_cons_succ]
            refine wpAnyH_take (i := 13) (oi := { dst := some 111, op := _, type := _, pos := _, after := _, guard := _ }) (v := ?_) rfl (by kernel_rfl) (by kernel_rfl) (by kernel_rfl) (fun _ _ _ h => h) (Or.inl ⟨by rfl, ?_⟩) (by assumption) ?_
            rotate_left
            · intro w' hSw
              try dsimp only at hSw
              go_simp
              try with_reducible rfl
            try simp only [Act.put, List.setIfInBounds_toArray, List.set_cons_zero, List.set_cons_succ]
            refine wpAnyH_take (i := 14) (oi := { dst := some 112, op := _, type := _, pos := _, after := _, guard := _ }) (v := ?_) rfl (by kernel_rfl) (by kernel_rfl) (by kernel_rfl) (fun _ _ _ h => h) (Or.inl ⟨by rfl, ?_⟩) (by assumption) ?_
            rotate_left
            · intro w' hSw
              try dsimp only at hSw
              go_simp
              try with_reducible rfl
            try simp only [Act.put, List.setIfInBounds_toArray, List.set_cons_zero, List.set_cons_succ]
            refine wpAnyH_take (i := 15) (oi := { dst := some 113, op := _, type := _, pos := _, after := _, guard := _ }) (v := ?_) rfl (by kernel_rfl) (by kernel_rfl) (by kernel_rfl) (fun _ _ _ h => h) (Or.inl ⟨by rfl, ?_⟩) (by assumption) ?_
            rotate_left
            · intro w' hSw
              try dsimp only at hSw
              go_simp
              try with_reducible rfl
            try simp only [Act.put, List.setIfInBounds_toArray, List.set_cons_zero, List.set_cons_succ]
            refine wpAnyH_take (i := 17) (oi := { dst := some 115, op := _, type := _, pos := _, after := _, guard := _ }) (v := ?_) rfl (by kernel_rfl) (by kernel_rfl) (by kernel_rfl) (fun _ _ _ h => h) (Or.inl ⟨by rfl, ?_⟩) (by assumption) ?_
            rotate_left
            · intro w' hSw
              try dsimp only at hSw
              go_simp
              try with_reducible rfl
            try simp only [Act.put, List.setIfInBounds_toArray, List.set_cons_zero, List.set_cons_succ]
            refine wpAnyH_take (i := 18) (oi := { dst := some 116, op := _, type := _, pos := _, after := _, guard := _ }) (v := ?_) rfl (by kernel_rfl) (by kernel_rfl) (by kernel_rfl) (fun _ _ _ h => h) (Or.inl ⟨by rfl, ?_⟩) (by assumption) ?_
            rotate_left
            · intro w' hSw
              try dsimp only at hSw
              go_simp
              try with_reducible rfl
            try simp only [Act.put, List.setIfInBounds_toArray, List.set_cons_zero, List.set_cons_succ]
            refine wpAnyH_take (i := 19) (oi := { dst := some 117, op := _, type := _, pos := _, after := _, guard := _ }) (v := ?_) rfl (by kernel_rfl) (by kernel_rfl) (by kernel_rfl) (fun _ _ _ h => h) (Or.inl ⟨by rfl, ?_⟩) (by assumption) ?_
            rotate_left
            · intro w' hSw
              try dsimp only at hSw
              go_simp
              try with_reducible rfl
            try simp only [Act.put, List.setIfInBounds_toArray, List.set_cons_zero, List.set_cons_succ]
            refine wpAnyH_ready (rs := [16]) (by kernel_rfl) (by simp) ?_
            refine AllReadyH.cons (o := { dst := some 114, op := _, type := _, pos := _, after := _, guard := _ }) rfl (fun K hK => ?_) AllReadyH.nil
            go_simp
            go_at_call 12
            refine (HSM.out _ _).mono ?_
            rintro e _ ⟨rfl, q2, rfl⟩
            try go_wp2_with fail
            have ES : Hid (Blk (W9.drewN (1 + q2)) W7.heap.size 29 #[.int .i64 mm, .int .i64 y, .int .i64 mo, .int .i64 dd, .int .i64 hh, .int .i64 mi, .int .i64 s, .int .u32 sum, .int .u64 p, .int .u64 z, .string (S nm), .int .u32 k, .int .u64 o]) := (show Blk W9 W7.heap.size 29 #[.int .i64 mm, .int .i64 y, .int .i64 mo, .int .i64 dd, .int .i64 hh, .int .i64 mi, .int .i64 s, .int .u32 sum, .int .u64 p, .int .u64 z, .string (S nm), .int .u32 k, .int .u64 o] from E9.out)
            have KS : Hid (Blk (W9.drewN (1 + q2)) w.heap.size 29 #[.int .i64 mm, .int .i64 y, .int .i64 mo, .int .i64 dd, .int .i64 hh, .int .i64 mi, .int .i64 s, .int .u32 sum, .int .u64 p, .int .u64 z, .string (S nm), .int .u32 k, .int .u64 o]) := (show Blk W9 w.heap.size 29 #[.int .i64 mm, .int .i64 y, .int .i64 mo, .int .i64 dd, .int .i64 hh, .int .i64 mi, .int .i64 s, .int .u32 sum, .int .u64 p, .int .u64 z, .string (S nm), .int .u32 k, .int .u64 o] from K9.out)
            have JS : Hid (Blk (W9.drewN (1 + q2)) (w.heap.size + 1) 29 #[.int .i64 mm, .int .i64 y, .int .i64 mo, .int .i64 dd, .int .i64 hh, .int .i64 mi, .int .i64 s, .int .u32 sum, .int .u64 p, .int .u64 z, .string (S nm), .int .u32 k, .int .u64 o]) := (show Blk W9 (w.heap.size + 1) 29 #[.int .i64 mm, .int .i64 y, .int .i64 mo, .int .i64 dd, .int .i64 hh, .int .i64 mi, .int .i64 s, .int .u32 sum, .int .u64 p, .int .u64 z, .string (S nm), .int .u32 k, .int .u64 o] from J9.out)
            have BS := Lib.hid (below_drewN B9.out (1 + q2))
            refine hK.out _ _ ?_ (fun hHeld => ?_)
            · exact ⟨ES.out.cell 0, ES.out.cell 1, ES.out.cell 2, ES.out.cell 3, ES.out.cell 4, ES.out.cell 5, ES.out.cell 6, ES.out.cell 7, ES.out.cell 8, ES.out.cell 9, ES.out.cell 10, ES.out.cell 11, ES.out.cell 12, KS.out.cell 0, KS.out.cell 1, KS.out.cell 2, KS.out.cell 3, KS.out.cell 4, KS.out.cell 5, KS.out.cell 6, KS.out.cell 7, KS.out.cell 8, KS.out.cell 9, KS.out.cell 10, KS.out.cell 11, KS.out.cell 12, JS.out.cell 0, JS.out.cell 1, JS.out.cell 2, JS.out.cell 3, JS.out.cell 4, JS.out.cell 5, JS.out.cell 6, JS.out.cell 7, JS.out.cell 8, JS.out.cell 9, JS.out.cell 10, JS.out.cell 11, JS.out.cell 12⟩
            clear hK K
            try simp only [Act.put, List.setIfInBounds_toArray, List.set_cons_zero, List.set_cons_succ]
            refine wpAnyH_take (i := 20) (oi := { dst := some 118, op := _, type := _, pos := _, after := _, guard := _ }) (v := ?_) rfl (by kernel_rfl) (by kernel_rfl) (by kernel_rfl) (fun _ _ _ h => h) (Or.inl ⟨by rfl, ?_⟩) (by assumption) ?_
            rotate_left
            · intro w' hSw
              try dsimp only at hSw
              go_simp
              try with_reducible rfl
            try simp only [Act.put, List.setIfInBounds_toArray, List.set_cons_zero, List.set_cons_succ]
            refine wpAnyH_take (i := 21) (oi := { dst := some 119, op := _, type := _, pos := _, after := _, guard := _ }) (v := ?_) rfl (by kernel_rfl) (by kernel_rfl) (by kernel_rfl) (fun _ _ _ h => h) (Or.inl ⟨by rfl, ?_⟩) (by assumption) ?_
            rotate_left
            · intro w' hSw
              try dsimp only at hSw
              go_simp
              try with_reducible rfl
            try simp only [Act.put, List.setIfInBounds_toArray, List.set_cons_zero, List.set_cons_succ]
            refine wpAnyH_take (i := 22) (oi := { dst := some 120, op := _, type := _, pos := _, after := _, guard := _ }) (v := ?_) rfl (by kernel_rfl) (by kernel_rfl) (by kernel_rfl) (fun _ _ _ h => h) (Or.inl ⟨by rfl, ?_⟩) (by assumption) ?_
            rotate_left
            · intro w' hSw
              try dsimp only at hSw
              go_simp
              try with_reducible rfl
            try simp only [Act.put, List.setIfInBounds_toArray, List.set_cons_zero, List.set_cons_succ]
            refine wpAnyH_take (i := 23) (oi := { dst := some 121, op := _, type := _, pos := _, after := _, guard := _ }) (v := ?_) rfl (by kernel_rfl) (by kernel_rfl) (by kernel_rfl) (fun _ _ _ h => h) (Or.inl ⟨by rfl, ?_⟩) (by assumption) ?_
            rotate_left
            · intro w' hSw
              try dsimp only at hSw
              go_simp
              try with_reducible rfl
            try simp only [Act.put, List.setIfInBounds_toArray, List.set_cons_zero, List.set_cons_succ]
            refine wpAnyH_take (i := 24) (oi := { dst := some 122, op := _, type := _, pos := _, after := _, guard := _ }) (v := ?_) rfl (by kernel_rfl) (by kernel_rfl) (by kernel_rfl) (fun _ _ _ h => h) (Or.inl ⟨by rfl, ?_⟩) (by assumption) ?_
            rotate_left
            · intro w' hSw
              try dsimp only at hSw
              go_simp
              try with_reducible rfl
            try simp only [Act.put, List.setIfInBounds_toArray, List.set_cons_zero, List.set_cons_succ]
            refine wpAnyH_take (i := 25) (oi := { dst := some 123, op := _, type := _, pos := _, after := _, guard := _ }) (v := ?_) rfl (by kernel_rfl) (by kernel_rfl) (by kernel_rfl) (fun _ _ _ h => h) (Or.inl ⟨by rfl, ?_⟩) (by assumption) ?_
            rotate_left
            · intro w' hSw
              try dsimp only at hSw
              go_simp
              try with_reducible rfl
            try simp only [Act.put, List.setIfInBounds_toArray, List.set_cons_zero, List.set_cons_succ]
            refine wpAnyH_take (i := 26) (oi := { dst := some 124, op := _, type := _, pos := _, after := _, guard := _ }) (v := undef) rfl (by kernel_rfl) (by kernel_rfl) (by kernel_rfl) (fun _ _ _ h => h) (Or.inr ⟨by rfl, rfl⟩) (by assumption) ?_
            try simp only [Act.put, List.setIfInBounds_toArray, List.set_cons_zero, List.set_cons_succ]
            refine wpAnyH_take (i := 27) (oi := { dst := some 125, op := _, type := _, pos := _, after := _, guard := _ }) (v := undef) rfl (by kernel_rfl) (by kernel_rfl) (by kernel_rfl) (fun _ _ _ h => h) (Or.inr ⟨by rfl, rfl⟩) (by assumption) ?_
            try simp only [Act.put, List.setIfInBounds_toArray, List.set_cons_zero, List.set_cons_succ]
            refine wpAnyH_take (i := 28) (oi := { dst := some 126, op := _, type := _, pos := _, after := _, guard := _ }) (v := undef) rfl (by kernel_rfl) (by kernel_rfl) (by kernel_rfl) (fun _ _ _ h => h) (Or.inr ⟨by rfl, rfl⟩) (by assumption) ?_
            try simp only [Act.put, List.setIfInBounds_toArray, List.set_cons_zero, List.set_cons_succ]
            refine wpAnyH_take (i := 29) (oi := { dst := some 127, op := _, type := _, pos := _, after := _, guard := _ }) (v := undef) rfl (by kernel_rfl) (by kernel_rfl) (by kernel_rfl) (fun _ _ _ h => h) (Or.inr ⟨by rfl, rfl⟩) (by assumption) ?_
            try simp only [Act.put, List.setIfInBounds_toArray, List.set_cons_zero, List.set_cons_succ]
            refine wpAnyH_take (i := 30) (oi := { dst := some 128, op := _, type := _, pos := _, after := _, guard := _ }) (v := undef) rfl (by kernel_rfl) (by kernel_rfl) (by kernel_rfl) (fun _ _ _ h => h) (Or.inr ⟨by rfl, rfl⟩) (by assumption) ?_
            try simp only [Act.put, List.setIfInBounds_toArray, List.set_cons_zero, List.set_cons_succ]
            refine wpAnyH_take (i := 31) (oi := { dst := some 129, op := _, type := _, pos := _, after := _, guard := _ }) (v := undef) rfl (by kernel_rfl) (by kernel_rfl) (by kernel_rfl) (fun _ _ _ h => h) (Or.inr ⟨by rfl, rfl⟩) (by assumption) ?_
            try simp only [Act.put, List.setIfInBounds_toArray, List.set_cons_zero, List.set_cons_succ]
            refine wpAnyH_take (i := 32) (oi := { dst := some 130, op := _, type := _, pos := _, after := _, guard := _ }) (v := ?_) rfl (by kernel_rfl) (by kernel_rfl) (by kernel_rfl) (fun _ _ _ h => h) (Or.inl ⟨by rfl, ?_⟩) (by assumption) ?_
            rotate_left
            · intro w' hSw
              try dsimp only at hSw
              go_simp
              try with_reducible rfl
            try simp only [Act.put, List.setIfInBounds_toArray, List.set_cons_zero, List.set_cons_succ]
            refine wpAnyH_take (i := 33) (oi := { dst := some 131, op := _, type := _, pos := _, after := _, guard := _ }) (v := ?_) rfl (by kernel_rfl) (by kernel_rfl) (by kernel_rfl) (fun _ _ _ h => h) (Or.inl ⟨by rfl, ?_⟩) (by assumption) ?_
            rotate_left
            · intro w' hSw
              try dsimp only at hSw
              go_simp
              try with_reducible rfl
            try simp only [Act.put, List.setIfInBounds_toArray, List.set_cons_zero, List.set_cons_succ]
            refine wpAnyH_take (i := 34) (oi := { dst := some 4, op := _, type := _, pos := _, after := _, guard := _ }) (v := ?_) rfl (by kernel_rfl) (by kernel_rfl) (by kernel_rfl) (fun _ _ _ h => h) (Or.inl ⟨by rfl, ?_⟩) (by assumption) ?_
            rotate_left
            · intro w' hSw
              try dsimp only at hSw
              go_simp
              try with_reducible rfl
            try simp only [Act.put, List.setIfInBounds_toArray, List.set_cons_zero, List.set_cons_succ]
            refine wpAnyH_done (by kernel_rfl) ?_ _
            go_wp2
            go_ret
            exact ⟨rfl, BS.out⟩
          case true =>
            have hsz16 : IntKind.i64.wrap (HS + 16) = HS + 16 := IntWalk.i64_in _ (by omega)
            have hszN : (N : Int) = HS + 16 := (HFIT.out (HFB.out.1 rfl)).symm
            have hszB : ((N : Int) == HS + 16) = true := by rw [beq_iff_eq]; exact hszN
            clear hszN
            refine wp_region_held_drew (S := fun W' => W'.cell? ⟨W7.heap.size, 0, none⟩ = some (Value.int .i64 mm) ∧ W'.cell? ⟨W7.heap.size, 1, none⟩ = some (Value.int .i64 y) ∧ W'.cell? ⟨W7.heap.size, 2, none⟩ = some (Value.int .i64 mo) ∧ W'.cell? ⟨W7.heap.size, 3, none⟩ = some (Value.int .i64 dd) ∧ W'.cell? ⟨W7.heap.size, 4, none⟩ = some (Value.int .i64 hh) ∧ W'.cell? ⟨W7.heap.size, 5, none⟩ = some (Value.int .i64 mi) ∧ W'.cell? ⟨W7.heap.size, 6, none⟩ = some (Value.int .i64 s) ∧ W'.cell? ⟨W7.heap.size, 7, none⟩ = some (Value.int .u32 sum) ∧ W'.cell? ⟨W7.heap.size, 8, none⟩ = some (Value.int .u64 p) ∧ W'.cell? ⟨W7.heap.size, 9, none⟩ = some (Value.int .u64 z) ∧ W'.cell? ⟨W7.heap.size, 10, none⟩ = some (Value.string (S nm)) ∧ W'.cell? ⟨W7.heap.size, 11, none⟩ = some (Value.int .u32 k) ∧ W'.cell? ⟨W7.heap.size, 12, none⟩ = some (Value.int .u64 o) ∧ W'.cell? ⟨w.heap.size, 0, none⟩ = some (Value.int .i64 mm) ∧ W'.cell? ⟨w.heap.size, 1, none⟩ = some (Value.int .i64 y) ∧ W'.cell? ⟨w.heap.size, 2, none⟩ = some (Value.int .i64 mo) ∧ W'.cell? ⟨w.heap.size, 3, none⟩ = some (Value.int .i64 dd) ∧ W'.cell? ⟨w.heap.size, 4, none⟩ = some (Value.int .i64 hh) ∧ W'.cell? ⟨w.heap.size, 5, none⟩ = some (Value.int .i64 mi) ∧ W'.cell? ⟨w.heap.size, 6, none⟩ = some (Value.int .i64 s) ∧ W'.cell? ⟨w.heap.size, 7, none⟩ = some (Value.int .u32 sum) ∧ W'.cell? ⟨w.heap.size, 8, none⟩ = some (Value.int .u64 p) ∧ W'.cell? ⟨w.heap.size, 9, none⟩ = some (Value.int .u64 z) ∧ W'.cell? ⟨w.heap.size, 10, none⟩ = some (Value.string (S nm)) ∧ W'.cell? ⟨w.heap.size, 11, none⟩ = some (Value.int .u32 k) ∧ W'.cell? ⟨w.heap.size, 12, none⟩ = some (Value.int .u64 o) ∧ W'.cell? ⟨(w.heap.size + 1), 0, none⟩ = some (Value.int .i64 mm) ∧ W'.cell? ⟨(w.heap.size + 1), 1, none⟩ = some (Value.int .i64 y) ∧ W'.cell? ⟨(w.heap.size + 1), 2, none⟩ = some (Value.int .i64 mo) ∧ W'.cell? ⟨(w.heap.size + 1), 3, none⟩ = some (Value.int .i64 dd) ∧ W'.cell? ⟨(w.heap.size + 1), 4, none⟩ = some (Value.int .i64 hh) ∧ W'.cell? ⟨(w.heap.size + 1), 5, none⟩ = some (Value.int .i64 mi) ∧ W'.cell? ⟨(w.heap.size + 1), 6, none⟩ = some (Value.int .i64 s) ∧ W'.cell? ⟨(w.heap.size + 1), 7, none⟩ = some (Value.int .u32 sum) ∧ W'.cell? ⟨(w.heap.size + 1), 8, none⟩ = some (Value.int .u64 p) ∧ W'.cell? ⟨(w.heap.size + 1), 9, none⟩ = some (Value.int .u64 z) ∧ W'.cell? ⟨(w.heap.size + 1), 10, none⟩ = some (Value.string (S nm)) ∧ W'.cell? ⟨(w.heap.size + 1), 11, none⟩ = some (Value.int .u32 k) ∧ W'.cell? ⟨(w.heap.size + 1), 12, none⟩ = some (Value.int .u64 o)) (by kernel_rfl) ?_ (fun hHeld => ?_)
            · exact ⟨ED.out.cell 0, ED.out.cell 1, ED.out.cell 2, ED.out.cell 3, ED.out.cell 4, ED.out.cell 5, ED.out.cell 6, ED.out.cell 7, ED.out.cell 8, ED.out.cell 9, ED.out.cell 10, ED.out.cell 11, ED.out.cell 12, KD.out.cell 0, KD.out.cell 1, KD.out.cell 2, KD.out.cell 3, KD.out.cell 4, KD.out.cell 5, KD.out.cell 6, KD.out.cell 7, KD.out.cell 8, KD.out.cell 9, KD.out.cell 10, KD.out.cell 11, KD.out.cell 12, JD.out.cell 0, JD.out.cell 1, JD.out.cell 2, JD.out.cell 3, JD.out.cell 4, JD.out.cell 5, JD.out.cell 6, JD.out.cell 7, JD.out.cell 8, JD.out.cell 9, JD.out.cell 10, JD.out.cell 11, JD.out.cell 12⟩
            refine wpAnyH_take (i := 0) (oi := { dst := some 98, op := _, type := _, pos := _, after := _, guard := _ }) (v := ?_) rfl (by kernel_rfl) (by kernel_rfl) (by kernel_rfl) (fun _ _ _ h => h) (Or.inl ⟨by rfl, ?_⟩) (by assumption) ?_
            rotate_left
            · intro w' hSw
              try dsimp only at hSw
              go_simp
              try with_reducible rfl
            try simp only [Act.put, List.setIfInBounds_toArray, List.set_cons_zero, List.set_cons_succ]
            refine wpAnyH_take (i := 1) (oi := { dst := some 99, op := _, type := _, pos := _, after := _, guard := _ }) (v := ?_) rfl (by kernel_rfl) (by kernel_rfl) (by kernel_rfl) (fun _ _ _ h => h) (Or.inl ⟨by rfl, ?_⟩) (by assumption) ?_
            rotate_left
            · intro w' hSw
              try dsimp only at hSw
              go_simp
              try with_reducible rfl
            try simp only [Act.put, List.setIfInBounds_toArray, List.set_cons_zero, List.set_cons_succ]
            refine wpAnyH_take (i := 2) (oi := { dst := some 100, op := _, type := _, pos := _, after := _, guard := _ }) (v := ?_) rfl (by kernel_rfl) (by kernel_rfl) (by kernel_rfl) (fun _ _ _ h => h) (Or.inl ⟨by rfl, ?_⟩) (by assumption) ?_
            rotate_left
            · intro w' hSw
              try dsimp only at hSw
              go_simp
              try with_reducible rfl
            try simp only [Act.put, List.setIfInBounds_toArray, List.set_cons_zero, List.set_cons_succ]
            refine wpAnyH_take (i := 3) (oi := { dst := some 101, op := _, type := _, pos := _, after := _, guard := _ }) (v := ?_) rfl (by kernel_rfl) (by kernel_rfl) (by kernel_rfl) (fun _ _ _ h => h) (Or.inl ⟨by rfl, ?_⟩) (by assumption) ?_
            rotate_left
            · intro w' hSw
              try dsimp only at hSw
              go_simp
              try with_reducible rfl
            try simp only [Act.put, List.setIfInBounds_toArray, List.set_cons_zero, List.set_cons_succ]
            refine wpAnyH_take (i := 4) (oi := { dst := some 102, op := _, type := _, pos := _, after := _, guard := _ }) (v := ?_) rfl (by kernel_rfl) (by kernel_rfl) (by kernel_rfl) (fun _ _ _ h => h) (Or.inl ⟨by rfl, ?_⟩) (by assumption) ?_
            rotate_left
            · intro w' hSw
              try dsimp only at hSw
              go_simp
              try with_reducible rfl
            try simp only [Act.put, List.setIfInBounds_toArray, List.set_cons_zero, List.set_cons_succ]
            refine wpAnyH_take (i := 5) (oi := { dst := some 103, op := _, type := _, pos := _, after := _, guard := _ }) (v := ?_) rfl (by kernel_rfl) (by kernel_rfl) (by kernel_rfl) (fun _ _ _ h => h) (Or.inl ⟨by rfl, ?_⟩) (by assumption) ?_
            rotate_left
            · intro w' hSw
              try dsimp only at hSw
              go_simp
              try with_reducible rfl
            try simp only [Act.put, List.setIfInBounds_toArray, List.set_cons_zero, List.set_cons_succ]
            refine wpAnyH_take (i := 6) (oi := { dst := some 104, op := _, type := _, pos := _, after := _, guard := _ }) (v := ?_) rfl (by kernel_rfl) (by kernel_rfl) (by kernel_rfl) (fun _ _ _ h => h) (Or.inl ⟨by rfl, ?_⟩) (by assumption) ?_
            rotate_left
            · intro w' hSw
              try dsimp only at hSw
              go_simp
              try with_reducible rfl
            try simp only [Act.put, List.setIfInBounds_toArray, List.set_cons_zero, List.set_cons_succ]
            refine wpAnyH_take (i := 7) (oi := { dst := some 105, op := _, type := _, pos := _, after := _, guard := _ }) (v := ?_) rfl (by kernel_rfl) (by kernel_rfl) (by kernel_rfl) (fun _ _ _ h => h) (Or.inl ⟨by rfl, ?_⟩) (by assumption) ?_
            rotate_left
            · intro w' hSw
              try dsimp only at hSw
              go_simp
              try with_reducible rfl
            try simp only [Act.put, List.setIfInBounds_toArray, List.set_cons_zero, List.set_cons_succ]
            refine wpAnyH_take (i := 8) (oi := { dst := some 106, op := _, type := _, pos := _, after := _, guard := _ }) (v := ?_) rfl (by kernel_rfl) (by kernel_rfl) (by kernel_rfl) (fun _ _ _ h => h) (Or.inl ⟨by rfl, ?_⟩) (by assumption) ?_
            rotate_left
            · intro w' hSw
              try dsimp only at hSw
              go_simp
              try with_reducible rfl
            try simp only [Act.put, List.setIfInBounds_toArray, List.set_cons_zero, List.set_cons_succ]
            refine wpAnyH_take (i := 9) (oi := { dst := some 107, op := _, type := _, pos := _, after := _, guard := _ }) (v := ?_) rfl (by kernel_rfl) (by kernel_rfl) (by kernel_rfl) (fun _ _ _ h => h) (Or.inl ⟨by rfl, ?_⟩) (by assumption) ?_
            rotate_left
            · intro w' hSw
              try dsimp only at hSw
              go_simp
              try with_reducible rfl
            try simp only [Act.put, List.setIfInBounds_toArray, List.set_cons_zero, List.set_cons_succ]
            refine wpAnyH_take (i := 10) (oi := { dst := some 108, op := _, type := _, pos := _, after := _, guard := _ }) (v := ?_) rfl (by kernel_rfl) (by kernel_rfl) (by kernel_rfl) (fun _ _ _ h => h) (Or.inl ⟨by rfl, ?_⟩) (by assumption) ?_
            rotate_left
            · intro w' hSw
              try dsimp only at hSw
              go_simp
              try with_reducible rfl
            try simp only [Act.put, List.setIfInBounds_toArray, List.set_cons_zero, List.set_cons_succ]
            refine wpAnyH_take (i := 11) (oi := { dst := some 109, op := _, type := _, pos := _, after := _, guard := _ }) (v := ?_) rfl (by kernel_rfl) (by kernel_rfl) (by kernel_rfl) (fun _ _ _ h => h) (Or.inl ⟨by rfl, ?_⟩) (by assumption) ?_
            rotate_left
            · intro w' hSw
              try dsimp only at hSw
              go_simp
              try with_reducible rfl
            try simp only [Act.put, List.setIfInBounds_toArray, List.set_cons_zero, List.set_cons_succ]
            refine wpAnyH_take (i := 12) (oi := { dst := some 110, op := _, type := _, pos := _, after := _, guard := _ }) (v := ?_) rfl (by kernel_rfl) (by kernel_rfl) (by kernel_rfl) (fun _ _ _ h => h) (Or.inl ⟨by rfl, ?_⟩) (by assumption) ?_
            rotate_left
            · intro w' hSw
              try dsimp only at hSw
              go_simp
              try with_reducible rfl
            try simp only [Act.put, List.setIfInBounds_toArray, List.set_cons_zero, List.set_cons_succ]
            refine wpAnyH_take (i := 13) (oi := { dst := some 111, op := _, type := _, pos := _, after := _, guard := _ }) (v := ?_) rfl (by kernel_rfl) (by kernel_rfl) (by kernel_rfl) (fun _ _ _ h => h) (Or.inl ⟨by rfl, ?_⟩) (by assumption) ?_
            rotate_left
            · intro w' hSw
              try dsimp only at hSw
              go_simp
              try with_reducible rfl
            try simp only [Act.put, List.setIfInBounds_toArray, List.set_cons_zero, List.set_cons_succ]
            refine wpAnyH_take (i := 14) (oi := { dst := some 112, op := _, type := _, pos := _, after := _, guard := _ }) (v := ?_) rfl (by kernel_rfl) (by kernel_rfl) (by kernel_rfl) (fun _ _ _ h => h) (Or.inl ⟨by rfl, ?_⟩) (by assumption) ?_
            rotate_left
            · intro w' hSw
              try dsimp only at hSw
              go_simp
              try with_reducible rfl
            try simp only [Act.put, List.setIfInBounds_toArray, List.set_cons_zero, List.set_cons_succ]
            refine wpAnyH_take (i := 15) (oi := { dst := some 113, op := _, type := _, pos := _, after := _, guard := _ }) (v := ?_) rfl (by kernel_rfl) (by kernel_rfl) (by kernel_rfl) (fun _ _ _ h => h) (Or.inl ⟨by rfl, ?_⟩) (by assumption) ?_
            rotate_left
            · intro w' hSw
              try dsimp only at hSw
              go_simp
              try with_reducible rfl
            try simp only [Act.put, List.setIfInBounds_toArray, List.set_cons_zero, List.set_cons_succ]
            refine wpAnyH_take (i := 17) (oi := { dst := some 115, op := _, type := _, pos := _, after := _, guard := _ }) (v := ?_) rfl (by kernel_rfl) (by kernel_rfl) (by kernel_rfl) (fun _ _ _ h => h) (Or.inl ⟨by rfl, ?_⟩) (by assumption) ?_
            rotate_left
            · intro w' hSw
              try dsimp only at hSw
              go_simp
              try with_reducible rfl
            try simp only [Act.put, List.setIfInBounds_toArray, List.set_cons_zero, List.set_cons_succ]
            refine wpAnyH_take (i := 18) (oi := { dst := some 116, op := _, type := _, pos := _, after := _, guard := _ }) (v := ?_) rfl (by kernel_rfl) (by kernel_rfl) (by kernel_rfl) (fun _ _ _ h => h) (Or.inl ⟨by rfl, ?_⟩) (by assumption) ?_
            rotate_left
            · intro w' hSw
              try dsimp only at hSw
              go_simp
              try with_reducible rfl
            try simp only [Act.put, List.setIfInBounds_toArray, List.set_cons_zero, List.set_cons_succ]
            refine wpAnyH_take (i := 19) (oi := { dst := some 117, op := _, type := _, pos := _, after := _, guard := _ }) (v := ?_) rfl (by kernel_rfl) (by kernel_rfl) (by kernel_rfl) (fun _ _ _ h => h) (Or.inl ⟨by rfl, ?_⟩) (by assumption) ?_
            rotate_left
            · intro w' hSw
              try dsimp only at hSw
              go_simp
              try with_reducible rfl
            try simp only [Act.put, List.setIfInBounds_toArray, List.set_cons_zero, List.set_cons_succ]
            refine wpAnyH_ready (rs := [16]) (by kernel_rfl) (by simp) ?_
            refine AllReadyH.cons (o := { dst := some 114, op := _, type := _, pos := _, after := _, guard := _ }) rfl (fun K hK => ?_) AllReadyH.nil
            go_simp
            go_at_call 12
            refine (HSM.out _ _).mono ?_
            rintro e _ ⟨rfl, q2, rfl⟩
            try go_wp2_with fail
            have ES : Hid (Blk (W9.drewN (1 + q2)) W7.heap.size 29 #[.int .i64 mm, .int .i64 y, .int .i64 mo, .int .i64 dd, .int .i64 hh, .int .i64 mi, .int .i64 s, .int .u32 sum, .int .u64 p, .int .u64 z, .string (S nm), .int .u32 k, .int .u64 o]) := (show Blk W9 W7.heap.size 29 #[.int .i64 mm, .int .i64 y, .int .i64 mo, .int .i64 dd, .int .i64 hh, .int .i64 mi, .int .i64 s, .int .u32 sum, .int .u64 p, .int .u64 z, .string (S nm), .int .u32 k, .int .u64 o] from E9.out)
            have KS : Hid (Blk (W9.drewN (1 + q2)) w.heap.size 29 #[.int .i64 mm, .int .i64 y, .int .i64 mo, .int .i64 dd, .int .i64 hh, .int .i64 mi, .int .i64 s, .int .u32 sum, .int .u64 p, .int .u64 z, .string (S nm), .int .u32 k, .int .u64 o]) := (show Blk W9 w.heap.size 29 #[.int .i64 mm, .int .i64 y, .int .i64 mo, .int .i64 dd, .int .i64 hh, .int .i64 mi, .int .i64 s, .int .u32 sum, .int .u64 p, .int .u64 z, .string (S nm), .int .u32 k, .int .u64 o] from K9.out)
            have JS : Hid (Blk (W9.drewN (1 + q2)) (w.heap.size + 1) 29 #[.int .i64 mm, .int .i64 y, .int .i64 mo, .int .i64 dd, .int .i64 hh, .int .i64 mi, .int .i64 s, .int .u32 sum, .int .u64 p, .int .u64 z, .string (S nm), .int .u32 k, .int .u64 o]) := (show Blk W9 (w.heap.size + 1) 29 #[.int .i64 mm, .int .i64 y, .int .i64 mo, .int .i64 dd, .int .i64 hh, .int .i64 mi, .int .i64 s, .int .u32 sum, .int .u64 p, .int .u64 z, .string (S nm), .int .u32 k, .int .u64 o] from J9.out)
            have BS := Lib.hid (below_drewN B9.out (1 + q2))
            refine hK.out _ _ ?_ (fun hHeld => ?_)
            · exact ⟨ES.out.cell 0, ES.out.cell 1, ES.out.cell 2, ES.out.cell 3, ES.out.cell 4, ES.out.cell 5, ES.out.cell 6, ES.out.cell 7, ES.out.cell 8, ES.out.cell 9, ES.out.cell 10, ES.out.cell 11, ES.out.cell 12, KS.out.cell 0, KS.out.cell 1, KS.out.cell 2, KS.out.cell 3, KS.out.cell 4, KS.out.cell 5, KS.out.cell 6, KS.out.cell 7, KS.out.cell 8, KS.out.cell 9, KS.out.cell 10, KS.out.cell 11, KS.out.cell 12, JS.out.cell 0, JS.out.cell 1, JS.out.cell 2, JS.out.cell 3, JS.out.cell 4, JS.out.cell 5, JS.out.cell 6, JS.out.cell 7, JS.out.cell 8, JS.out.cell 9, JS.out.cell 10, JS.out.cell 11, JS.out.cell 12⟩
            clear hK K
            try simp only [Act.put, List.setIfInBounds_toArray, List.set_cons_zero, List.set_cons_succ]
            refine wpAnyH_take (i := 20) (oi := { dst := some 118, op := _, type := _, pos := _, after := _, guard := _ }) (v := ?_) rfl (by kernel_rfl) (by kernel_rfl) (by kernel_rfl) (fun _ _ _ h => h) (Or.inl ⟨by rfl, ?_⟩) (by assumption) ?_
            rotate_left
            · intro w' hSw
              try dsimp only at hSw
              go_simp
              try with_reducible rfl
            try simp only [Act.put, List.setIfInBounds_toArray, List.set_cons_zero, List.set_cons_succ]
            refine wpAnyH_take (i := 21) (oi := { dst := some 119, op := _, type := _, pos := _, after := _, guard := _ }) (v := ?_) rfl (by kernel_rfl) (by kernel_rfl) (by kernel_rfl) (fun _ _ _ h => h) (Or.inl ⟨by rfl, ?_⟩) (by assumption) ?_
            rotate_left
            · intro w' hSw
              try dsimp only at hSw
              go_simp
              try with_reducible rfl
            try simp only [Act.put, List.setIfInBounds_toArray, List.set_cons_zero, List.set_cons_succ]
            refine wpAnyH_take (i := 22) (oi := { dst := some 120, op := _, type := _, pos := _, after := _, guard := _ }) (v := ?_) rfl (by kernel_rfl) (by kernel_rfl) (by kernel_rfl) (fun _ _ _ h => h) (Or.inl ⟨by rfl, ?_⟩) (by assumption) ?_
            rotate_left
            · intro w' hSw
              try dsimp only at hSw
              go_simp
              try with_reducible rfl
            try simp only [Act.put, List.setIfInBounds_toArray, List.set_cons_zero, List.set_cons_succ]
            refine wpAnyH_take (i := 23) (oi := { dst := some 121, op := _, type := _, pos := _, after := _, guard := _ }) (v := ?_) rfl (by kernel_rfl) (by kernel_rfl) (by kernel_rfl) (fun _ _ _ h => h) (Or.inl ⟨by rfl, ?_⟩) (by assumption) ?_
            rotate_left
            · intro w' hSw
              try dsimp only at hSw
              go_simp
              try with_reducible rfl
            try simp only [Act.put, List.setIfInBounds_toArray, List.set_cons_zero, List.set_cons_succ]
            refine wpAnyH_take (i := 24) (oi := { dst := some 122, op := _, type := _, pos := _, after := _, guard := _ }) (v := ?_) rfl (by kernel_rfl) (by kernel_rfl) (by kernel_rfl) (fun _ _ _ h => h) (Or.inl ⟨by rfl, ?_⟩) (by assumption) ?_
            rotate_left
            · intro w' hSw
              try dsimp only at hSw
              go_simp
              try with_reducible rfl
            try simp only [Act.put, List.setIfInBounds_toArray, List.set_cons_zero, List.set_cons_succ]
            refine wpAnyH_take (i := 25) (oi := { dst := some 123, op := _, type := _, pos := _, after := _, guard := _ }) (v := ?_) rfl (by kernel_rfl) (by kernel_rfl) (by kernel_rfl) (fun _ _ _ h => h) (Or.inl ⟨by rfl, ?_⟩) (by assumption) ?_
            rotate_left
            · intro w' hSw
              try dsimp only at hSw
              go_simp
              try with_reducible rfl
            try simp only [Act.put, List.setIfInBounds_toArray, List.set_cons_zero, List.set_cons_succ]
            refine wpAnyH_take (i := 26) (oi := { dst := some 124, op := _, type := _, pos := _, after := _, guard := _ }) (v := ?_) rfl (by kernel_rfl) (by kernel_rfl) (by kernel_rfl) (fun _ _ _ h => h) (Or.inl ⟨by rfl, ?_⟩) (by assumption) ?_
            rotate_left
            · intro w' hSw
              try dsimp only at hSw
              go_simp
              try with_reducible rfl
            try simp only [Act.put, List.setIfInBounds_toArray, List.set_cons_zero, List.set_cons_succ]
            refine wpAnyH_take (i := 27) (oi := { dst := some 125, op := _, type := _, pos := _, after := _, guard := _ }) (v := ?_) rfl (by kernel_rfl) (by kernel_rfl) (by kernel_rfl) (fun _ _ _ h => h) (Or.inl ⟨by rfl, ?_⟩) (by assumption) ?_
            rotate_left
            · intro w' hSw
              try dsimp only at hSw
              go_simp
              try with_reducible rfl
            try simp only [Act.put, List.setIfInBounds_toArray, List.set_cons_zero, List.set_cons_succ]
            refine wpAnyH_take (i := 28) (oi := { dst := some 126, op := _, type := _, pos := _, after := _, guard := _ }) (v := ?_) rfl (by kernel_rfl) (by kernel_rfl) (by kernel_rfl) (fun _ _ _ h => h) (Or.inl ⟨by rfl, ?_⟩) (by assumption) ?_
            rotate_left
            · intro w' hSw
              try dsimp only at hSw
              go_simp
              try with_reducible rfl
            try simp only [Act.put, List.setIfInBounds_toArray, List.set_cons_zero, List.set_cons_succ]
            refine wpAnyH_ready (rs := [29]) (by kernel_rfl) (by simp) ?_
            refine AllReadyH.cons (o := { dst := some 127, op := _, type := _, pos := _, after := _, guard := _ }) rfl (fun K hK => ?_) AllReadyH.nil
            go_simp
            go_at_call 18
            refine (HSL.out _).mono ?_
            rintro e W11 ⟨rfl, hb11⟩
            try go_wp2_with fail
            have EZ := Lib.hid (ES.out.below ES.out.lt hb11)
            have KZ := Lib.hid (KS.out.below KS.out.lt hb11)
            have JZ := Lib.hid (JS.out.below JS.out.lt hb11)
            have BZ := Lib.hid (BS.out.trans (hb11.mono BS.out.size))
            refine hK.out _ _ ?_ (fun hHeld => ?_)
            · exact ⟨EZ.out.cell 0, EZ.out.cell 1, EZ.out.cell 2, EZ.out.cell 3, EZ.out.cell 4, EZ.out.cell 5, EZ.out.cell 6, EZ.out.cell 7, EZ.out.cell 8, EZ.out.cell 9, EZ.out.cell 10, EZ.out.cell 11, EZ.out.cell 12, KZ.out.cell 0, KZ.out.cell 1, KZ.out.cell 2, KZ.out.cell 3, KZ.out.cell 4, KZ.out.cell 5, KZ.out.cell 6, KZ.out.cell 7, KZ.out.cell 8, KZ.out.cell 9, KZ.out.cell 10, KZ.out.cell 11, KZ.out.cell 12, JZ.out.cell 0, JZ.out.cell 1, JZ.out.cell 2, JZ.out.cell 3, JZ.out.cell 4, JZ.out.cell 5, JZ.out.cell 6, JZ.out.cell 7, JZ.out.cell 8, JZ.out.cell 9, JZ.out.cell 10, JZ.out.cell 11, JZ.out.cell 12⟩
            clear hK K
            try simp only [Act.put, List.setIfInBounds_toArray, List.set_cons_zero, List.set_cons_succ]
            refine wpAnyH_take (i := 30) (oi := { dst := some 128, op := _, type := _, pos := _, after := _, guard := _ }) (v := ?_) rfl (by kernel_rfl) (by kernel_rfl) (by kernel_rfl) (fun _ _ _ h => h) (Or.inl ⟨by rfl, ?_⟩) (by assumption) ?_
            rotate_left
            · intro w' hSw
              try dsimp only at hSw
              go_simp
              try with_reducible rfl
            try simp only [Act.put, List.setIfInBounds_toArray, List.set_cons_zero, List.set_cons_succ]
            refine wpAnyH_take (i := 31) (oi := { dst := some 129, op := _, type := _, pos := _, after := _, guard := _ }) (v := ?_) rfl (by kernel_rfl) (by kernel_rfl) (by kernel_rfl) (fun _ _ _ h => h) (Or.inl ⟨by rfl, ?_⟩) (by assumption) ?_
            rotate_left
            · intro w' hSw
              try dsimp only at hSw
              go_simp
              try with_reducible rfl
            try simp only [Act.put, List.setIfInBounds_toArray, List.set_cons_zero, List.set_cons_succ]
            refine wpAnyH_take (i := 32) (oi := { dst := some 130, op := _, type := _, pos := _, after := _, guard := _ }) (v := ?_) rfl (by kernel_rfl) (by kernel_rfl) (by kernel_rfl) (fun _ _ _ h => h) (Or.inl ⟨by rfl, ?_⟩) (by assumption) ?_
            rotate_left
            · intro w' hSw
              try dsimp only at hSw
              go_simp
              try with_reducible rfl
            try simp only [Act.put, List.setIfInBounds_toArray, List.set_cons_zero, List.set_cons_succ]
            refine wpAnyH_take (i := 33) (oi := { dst := some 131, op := _, type := _, pos := _, after := _, guard := _ }) (v := ?_) rfl (by kernel_rfl) (by kernel_rfl) (by kernel_rfl) (fun _ _ _ h => h) (Or.inl ⟨by rfl, ?_⟩) (by assumption) ?_
            rotate_left
            · intro w' hSw
              try dsimp only at hSw
              go_simp
              try with_reducible rfl
            try simp only [Act.put, List.setIfInBounds_toArray, List.set_cons_zero, List.set_cons_succ]
            refine wpAnyH_take (i := 34) (oi := { dst := some 4, op := _, type := _, pos := _, after := _, guard := _ }) (v := ?_) rfl (by kernel_rfl) (by kernel_rfl) (by kernel_rfl) (fun _ _ _ h => h) (Or.inl ⟨by rfl, ?_⟩) (by assumption) ?_
            rotate_left
            · intro w' hSw
              try dsimp only at hSw
              go_simp
              try with_reducible rfl
            try simp only [Act.put, List.setIfInBounds_toArray, List.set_cons_zero, List.set_cons_succ]
            refine wpAnyH_done (by kernel_rfl) ?_ _
            go_wp2
            go_ret
            exact ⟨rfl, BZ.out⟩
        case false =>
          have hne := rc_neq _ _ (HNE.out rfl)
          unfold rcV rcC at hne
          dsimp only at hne
          cases fb
          case false =>
            refine wp_region_held_drew (S := fun W' => W'.cell? ⟨W7.heap.size, 0, none⟩ = some (Value.int .i64 mm') ∧ W'.cell? ⟨W7.heap.size, 1, none⟩ = some (Value.int .i64 y') ∧ W'.cell? ⟨W7.heap.size, 2, none⟩ = some (Value.int .i64 mo') ∧ W'.cell? ⟨W7.heap.size, 3, none⟩ = some (Value.int .i64 dd') ∧ W'.cell? ⟨W7.heap.size, 4, none⟩ = some (Value.int .i64 hh') ∧ W'.cell? ⟨W7.heap.size, 5, none⟩ = some (Value.int .i64 mi') ∧ W'.cell? ⟨W7.heap.size, 6, none⟩ = some (Value.int .i64 s') ∧ W'.cell? ⟨W7.heap.size, 7, none⟩ = some (Value.int .u32 sum') ∧ W'.cell? ⟨W7.heap.size, 8, none⟩ = some (Value.int .u64 p') ∧ W'.cell? ⟨W7.heap.size, 9, none⟩ = some (Value.int .u64 z') ∧ W'.cell? ⟨W7.heap.size, 10, none⟩ = some (Value.string (S nm')) ∧ W'.cell? ⟨W7.heap.size, 11, none⟩ = some (Value.int .u32 k') ∧ W'.cell? ⟨W7.heap.size, 12, none⟩ = some (Value.int .u64 o') ∧ W'.cell? ⟨w.heap.size, 0, none⟩ = some (Value.int .i64 mm) ∧ W'.cell? ⟨w.heap.size, 1, none⟩ = some (Value.int .i64 y) ∧ W'.cell? ⟨w.heap.size, 2, none⟩ = some (Value.int .i64 mo) ∧ W'.cell? ⟨w.heap.size, 3, none⟩ = some (Value.int .i64 dd) ∧ W'.cell? ⟨w.heap.size, 4, none⟩ = some (Value.int .i64 hh) ∧ W'.cell? ⟨w.heap.size, 5, none⟩ = some (Value.int .i64 mi) ∧ W'.cell? ⟨w.heap.size, 6, none⟩ = some (Value.int .i64 s) ∧ W'.cell? ⟨w.heap.size, 7, none⟩ = some (Value.int .u32 sum) ∧ W'.cell? ⟨w.heap.size, 8, none⟩ = some (Value.int .u64 p) ∧ W'.cell? ⟨w.heap.size, 9, none⟩ = some (Value.int .u64 z) ∧ W'.cell? ⟨w.heap.size, 10, none⟩ = some (Value.string (S nm)) ∧ W'.cell? ⟨w.heap.size, 11, none⟩ = some (Value.int .u32 k) ∧ W'.cell? ⟨w.heap.size, 12, none⟩ = some (Value.int .u64 o) ∧ W'.cell? ⟨(w.heap.size + 1), 0, none⟩ = some (Value.int .i64 mm') ∧ W'.cell? ⟨(w.heap.size + 1), 1, none⟩ = some (Value.int .i64 y') ∧ W'.cell? ⟨(w.heap.size + 1), 2, none⟩ = some (Value.int .i64 mo') ∧ W'.cell? ⟨(w.heap.size + 1), 3, none⟩ = some (Value.int .i64 dd') ∧ W'.cell? ⟨(w.heap.size + 1), 4, none⟩ = some (Value.int .i64 hh') ∧ W'.cell? ⟨(w.heap.size + 1), 5, none⟩ = some (Value.int .i64 mi') ∧ W'.cell? ⟨(w.heap.size + 1), 6, none⟩ = some (Value.int .i64 s') ∧ W'.cell? ⟨(w.heap.size + 1), 7, none⟩ = some (Value.int .u32 sum') ∧ W'.cell? ⟨(w.heap.size + 1), 8, none⟩ = some (Value.int .u64 p') ∧ W'.cell? ⟨(w.heap.size + 1), 9, none⟩ = some (Value.int .u64 z') ∧ W'.cell? ⟨(w.heap.size + 1), 10, none⟩ = some (Value.string (S nm')) ∧ W'.cell? ⟨(w.heap.size + 1), 11, none⟩ = some (Value.int .u32 k') ∧ W'.cell? ⟨(w.heap.size + 1), 12, none⟩ = some (Value.int .u64 o')) (by kernel_rfl) ?_ (fun hHeld => ?_)
            · exact ⟨ED.out.cell 0, ED.out.cell 1, ED.out.cell 2, ED.out.cell 3, ED.out.cell 4, ED.out.cell 5, ED.out.cell 6, ED.out.cell 7, ED.out.cell 8, ED.out.cell 9, ED.out.cell 10, ED.out.cell 11, ED.out.cell 12, KD.out.cell 0, KD.out.cell 1, KD.out.cell 2, KD.out.cell 3, KD.out.cell 4, KD.out.cell 5, KD.out.cell 6, KD.out.cell 7, KD.out.cell 8, KD.out.cell 9, KD.out.cell 10, KD.out.cell 11, KD.out.cell 12, JD.out.cell 0, JD.out.cell 1, JD.out.cell 2, JD.out.cell 3, JD.out.cell 4, JD.out.cell 5, JD.out.cell 6, JD.out.cell 7, JD.out.cell 8, JD.out.cell 9, JD.out.cell 10, JD.out.cell 11, JD.out.cell 12⟩
            refine wpAnyH_take (i := 0) (oi := { dst := some 98, op := _, type := _, pos := _, after := _, guard := _ }) (v := ?_) rfl (by kernel_rfl) (by kernel_rfl) (by kernel_rfl) (fun _ _ _ h => h) (Or.inl ⟨by rfl, ?_⟩) (by assumption) ?_
            rotate_left
            · intro w' hSw
              try dsimp only at hSw
              go_simp
              try with_reducible rfl
            try simp only [Act.put, List.setIfInBounds_toArray, List.set_cons_zero, List.set_cons_succ]
            refine wpAnyH_take (i := 1) (oi := { dst := some 99, op := _, type := _, pos := _, after := _, guard := _ }) (v := ?_) rfl (by kernel_rfl) (by kernel_rfl) (by kernel_rfl) (fun _ _ _ h => h) (Or.inl ⟨by rfl, ?_⟩) (by assumption) ?_
            rotate_left
            · intro w' hSw
              try dsimp only at hSw
              go_simp
              try with_reducible rfl
            try simp only [Act.put, List.setIfInBounds_toArray, List.set_cons_zero, List.set_cons_succ]
            refine wpAnyH_take (i := 2) (oi := { dst := some 100, op := _, type := _, pos := _, after := _, guard := _ }) (v := ?_) rfl (by kernel_rfl) (by kernel_rfl) (by kernel_rfl) (fun _ _ _ h => h) (Or.inl ⟨by rfl, ?_⟩) (by assumption) ?_
            rotate_left
            · intro w' hSw
              try dsimp only at hSw
              go_simp
              try with_reducible rfl
            try simp only [Act.put, List.setIfInBounds_toArray, List.set_cons_zero, List.set_cons_succ]
            refine wpAnyH_take (i := 3) (oi := { dst := some 101, op := _, type := _, pos := _, after := _, guard := _ }) (v := ?_) rfl (by kernel_rfl) (by kernel_rfl) (by kernel_rfl) (fun _ _ _ h => h) (Or.inl ⟨by rfl, ?_⟩) (by assumption) ?_
            rotate_left
            · intro w' hSw
              try dsimp only at hSw
              go_simp
              try with_reducible rfl
            try simp only [Act.put, List.setIfInBounds_toArray, List.set_cons_zero, List.set_cons_succ]
            refine wpAnyH_take (i := 4) (oi := { dst := some 102, op := _, type := _, pos := _, after := _, guard := _ }) (v := ?_) rfl (by kernel_rfl) (by kernel_rfl) (by kernel_rfl) (fun _ _ _ h => h) (Or.inl ⟨by rfl, ?_⟩) (by assumption) ?_
            rotate_left
            · intro w' hSw
              try dsimp only at hSw
              go_simp
              try with_reducible rfl
            try simp only [Act.put, List.setIfInBounds_toArray, List.set_cons_zero, List.set_cons_succ]
            refine wpAnyH_take (i := 5) (oi := { dst := some 103, op := _, type := _, pos := _, after := _, guard := _ }) (v := ?_) rfl (by kernel_rfl) (by kernel_rfl) (by kernel_rfl) (fun _ _ _ h => h) (Or.inl ⟨by rfl, ?_⟩) (by assumption) ?_
            rotate_left
            · intro w' hSw
              try dsimp only at hSw
              go_simp
              try with_reducible rfl
            try simp only [Act.put, List.setIfInBounds_toArray, List.set_cons_zero, List.set_cons_succ]
            refine wpAnyH_take (i := 6) (oi := { dst := some 104, op := _, type := _, pos := _, after := _, guard := _ }) (v := ?_) rfl (by kernel_rfl) (by kernel_rfl) (by kernel_rfl) (fun _ _ _ h => h) (Or.inl ⟨by rfl, ?_⟩) (by assumption) ?_
            rotate_left
            · intro w' hSw
              try dsimp only at hSw
              go_simp
              try with_reducible rfl
            try simp only [Act.put, List.setIfInBounds_toArray, List.set_cons_zero, List.set_cons_succ]
            refine wpAnyH_take (i := 7) (oi := { dst := some 105, op := _, type := _, pos := _, after := _, guard := _ }) (v := ?_) rfl (by kernel_rfl) (by kernel_rfl) (by kernel_rfl) (fun _ _ _ h => h) (Or.inl ⟨by rfl, ?_⟩) (by assumption) ?_
            rotate_left
            · intro w' hSw
              try dsimp only at hSw
              go_simp
              try with_reducible rfl
            try simp only [Act.put, List.setIfInBounds_toArray, List.set_cons_zero, List.set_cons_succ]
            refine wpAnyH_take (i := 8) (oi := { dst := some 106, op := _, type := _, pos := _, after := _, guard := _ }) (v := ?_) rfl (by kernel_rfl) (by kernel_rfl) (by kernel_rfl) (fun _ _ _ h => h) (Or.inl ⟨by rfl, ?_⟩) (by assumption) ?_
            rotate_left
            · intro w' hSw
              try dsimp only at hSw
              go_simp
              try with_reducible rfl
            try simp only [Act.put, List.setIfInBounds_toArray, List.set_cons_zero, List.set_cons_succ]
            refine wpAnyH_take (i := 9) (oi := { dst := some 107, op := _, type := _, pos := _, after := _, guard := _ }) (v := ?_) rfl (by kernel_rfl) (by kernel_rfl) (by kernel_rfl) (fun _ _ _ h => h) (Or.inl ⟨by rfl, ?_⟩) (by assumption) ?_
            rotate_left
            · intro w' hSw
              try dsimp only at hSw
              go_simp
              try with_reducible rfl
            try simp only [Act.put, List.setIfInBounds_toArray, List.set_cons_zero, List.set_cons_succ]
            refine wpAnyH_take (i := 10) (oi := { dst := some 108, op := _, type := _, pos := _, after := _, guard := _ }) (v := ?_) rfl (by kernel_rfl) (by kernel_rfl) (by kernel_rfl) (fun _ _ _ h => h) (Or.inl ⟨by rfl, ?_⟩) (by assumption) ?_
            rotate_left
            · intro w' hSw
              try dsimp only at hSw
              go_simp
              try with_reducible rfl
            try simp only [Act.put, List.setIfInBounds_toArray, List.set_cons_zero, List.set_cons_succ]
            refine wpAnyH_take (i := 11) (oi := { dst := some 109, op := _, type := _, pos := _, after := _, guard := _ }) (v := ?_) rfl (by kernel_rfl) (by kernel_rfl) (by kernel_rfl) (fun _ _ _ h => h) (Or.inl ⟨by rfl, ?_⟩) (by assumption) ?_
            rotate_left
            · intro w' hSw
              try dsimp only at hSw
              go_simp
              try with_reducible rfl
            try simp only [Act.put, List.setIfInBounds_toArray, List.set_cons_zero, List.set_cons_succ]
            refine wpAnyH_take (i := 12) (oi := { dst := some 110, op := _, type := _, pos := _, after := _, guard := _ }) (v := ?_) rfl (by kernel_rfl) (by kernel_rfl) (by kernel_rfl) (fun _ _ _ h => h) (Or.inl ⟨by rfl, ?_⟩) (by assumption) ?_
            rotate_left
            · intro w' hSw
              try dsimp only at hSw
              go_simp
              try with_reducible rfl
            try simp only [Act.put, List.setIfInBounds_toArray, List.set_cons_zero, List.set_cons_succ]
            refine wpAnyH_take (i := 13) (oi := { dst := some 111, op := _, type := _, pos := _, after := _, guard := _ }) (v := ?_) rfl (by kernel_rfl) (by kernel_rfl) (by kernel_rfl) (fun _ _ _ h => h) (Or.inl ⟨by rfl, ?_⟩) (by assumption) ?_
            rotate_left
            · intro w' hSw
              try dsimp only at hSw
              go_simp
              try with_reducible rfl
            try simp only [Act.put, List.setIfInBounds_toArray, List.set_cons_zero, List.set_cons_succ]
            refine wpAnyH_take (i := 14) (oi := { dst := some 112, op := _, type := _, pos := _, after := _, guard := _ }) (v := ?_) rfl (by kernel_rfl) (by kernel_rfl) (by kernel_rfl) (fun _ _ _ h => h) (Or.inl ⟨by rfl, ?_⟩) (by assumption) ?_
            rotate_left
            · intro w' hSw
              try dsimp only at hSw
              go_simp
              try with_reducible rfl
            try simp only [Act.put, List.setIfInBounds_toArray, List.set_cons_zero, List.set_cons_succ]
            refine wpAnyH_take (i := 15) (oi := { dst := some 113, op := _, type := _, pos := _, after := _, guard := _ }) (v := ?_) rfl (by kernel_rfl) (by kernel_rfl) (by kernel_rfl) (fun _ _ _ h => h) (Or.inl ⟨by rfl, ?_⟩) (by assumption) ?_
            rotate_left
            · intro w' hSw
              try dsimp only at hSw
              go_simp
              try with_reducible rfl
            try simp only [Act.put, List.setIfInBounds_toArray, List.set_cons_zero, List.set_cons_succ]
            refine wpAnyH_take (i := 17) (oi := { dst := some 115, op := _, type := _, pos := _, after := _, guard := _ }) (v := ?_) rfl (by kernel_rfl) (by kernel_rfl) (by kernel_rfl) (fun _ _ _ h => h) (Or.inl ⟨by rfl, ?_⟩) (by assumption) ?_
            rotate_left
            · intro w' hSw
              try dsimp only at hSw
              go_simp
              try with_reducible rfl
            try simp only [Act.put, List.setIfInBounds_toArray, List.set_cons_zero, List.set_cons_succ]
            refine wpAnyH_take (i := 18) (oi := { dst := some 116, op := _, type := _, pos := _, after := _, guard := _ }) (v := ?_) rfl (by kernel_rfl) (by kernel_rfl) (by kernel_rfl) (fun _ _ _ h => h) (Or.inl ⟨by rfl, ?_⟩) (by assumption) ?_
            rotate_left
            · intro w' hSw
              try dsimp only at hSw
              go_simp
              try with_reducible rfl
            try simp only [Act.put, List.setIfInBounds_toArray, List.set_cons_zero, List.set_cons_succ]
            refine wpAnyH_take (i := 19) (oi := { dst := some 117, op := _, type := _, pos := _, after := _, guard := _ }) (v := ?_) rfl (by kernel_rfl) (by kernel_rfl) (by kernel_rfl) (fun _ _ _ h => h) (Or.inl ⟨by rfl, ?_⟩) (by assumption) ?_
            rotate_left
            · intro w' hSw
              try dsimp only at hSw
              go_simp
              try with_reducible rfl
            try simp only [Act.put, List.setIfInBounds_toArray, List.set_cons_zero, List.set_cons_succ]
            refine wpAnyH_ready (rs := [16]) (by kernel_rfl) (by simp) ?_
            refine AllReadyH.cons (o := { dst := some 114, op := _, type := _, pos := _, after := _, guard := _ }) rfl (fun K hK => ?_) AllReadyH.nil
            go_simp
            go_at_call 12
            refine (HSM.out _ _).mono ?_
            rintro e _ ⟨rfl, q2, rfl⟩
            try go_wp2_with fail
            have ES : Hid (Blk (W9.drewN (1 + q2)) W7.heap.size 29 #[.int .i64 mm', .int .i64 y', .int .i64 mo', .int .i64 dd', .int .i64 hh', .int .i64 mi', .int .i64 s', .int .u32 sum', .int .u64 p', .int .u64 z', .string (S nm'), .int .u32 k', .int .u64 o']) := (show Blk W9 W7.heap.size 29 #[.int .i64 mm', .int .i64 y', .int .i64 mo', .int .i64 dd', .int .i64 hh', .int .i64 mi', .int .i64 s', .int .u32 sum', .int .u64 p', .int .u64 z', .string (S nm'), .int .u32 k', .int .u64 o'] from E9.out)
            have KS : Hid (Blk (W9.drewN (1 + q2)) w.heap.size 29 #[.int .i64 mm, .int .i64 y, .int .i64 mo, .int .i64 dd, .int .i64 hh, .int .i64 mi, .int .i64 s, .int .u32 sum, .int .u64 p, .int .u64 z, .string (S nm), .int .u32 k, .int .u64 o]) := (show Blk W9 w.heap.size 29 #[.int .i64 mm, .int .i64 y, .int .i64 mo, .int .i64 dd, .int .i64 hh, .int .i64 mi, .int .i64 s, .int .u32 sum, .int .u64 p, .int .u64 z, .string (S nm), .int .u32 k, .int .u64 o] from K9.out)
            have JS : Hid (Blk (W9.drewN (1 + q2)) (w.heap.size + 1) 29 #[.int .i64 mm', .int .i64 y', .int .i64 mo', .int .i64 dd', .int .i64 hh', .int .i64 mi', .int .i64 s', .int .u32 sum', .int .u64 p', .int .u64 z', .string (S nm'), .int .u32 k', .int .u64 o']) := (show Blk W9 (w.heap.size + 1) 29 #[.int .i64 mm', .int .i64 y', .int .i64 mo', .int .i64 dd', .int .i64 hh', .int .i64 mi', .int .i64 s', .int .u32 sum', .int .u64 p', .int .u64 z', .string (S nm'), .int .u32 k', .int .u64 o'] from J9.out)
            have BS := Lib.hid (below_drewN B9.out (1 + q2))
            refine hK.out _ _ ?_ (fun hHeld => ?_)
            · exact ⟨ES.out.cell 0, ES.out.cell 1, ES.out.cell 2, ES.out.cell 3, ES.out.cell 4, ES.out.cell 5, ES.out.cell 6, ES.out.cell 7, ES.out.cell 8, ES.out.cell 9, ES.out.cell 10, ES.out.cell 11, ES.out.cell 12, KS.out.cell 0, KS.out.cell 1, KS.out.cell 2, KS.out.cell 3, KS.out.cell 4, KS.out.cell 5, KS.out.cell 6, KS.out.cell 7, KS.out.cell 8, KS.out.cell 9, KS.out.cell 10, KS.out.cell 11, KS.out.cell 12, JS.out.cell 0, JS.out.cell 1, JS.out.cell 2, JS.out.cell 3, JS.out.cell 4, JS.out.cell 5, JS.out.cell 6, JS.out.cell 7, JS.out.cell 8, JS.out.cell 9, JS.out.cell 10, JS.out.cell 11, JS.out.cell 12⟩
            clear hK K
            try simp only [Act.put, List.setIfInBounds_toArray, List.set_cons_zero, List.set_cons_succ]
            refine wpAnyH_take (i := 20) (oi := { dst := some 118, op := _, type := _, pos := _, after := _, guard := _ }) (v := ?_) rfl (by kernel_rfl) (by kernel_rfl) (by kernel_rfl) (fun _ _ _ h => h) (Or.inl ⟨by rfl, ?_⟩) (by assumption) ?_
            rotate_left
            · intro w' hSw
              try dsimp only at hSw
              go_simp
              try with_reducible rfl
            try simp only [Act.put, List.setIfInBounds_toArray, List.set_cons_zero, List.set_cons_succ]
            refine wpAnyH_take (i := 21) (oi := { dst := some 119, op := _, type := _, pos := _, after := _, guard := _ }) (v := ?_) rfl (by kernel_rfl) (by kernel_rfl) (by kernel_rfl) (fun _ _ _ h => h) (Or.inl ⟨by rfl, ?_⟩) (by assumption) ?_
            rotate_left
            · intro w' hSw
              try dsimp only at hSw
              go_simp
              try with_reducible rfl
            try simp only [Act.put, List.setIfInBounds_toArray, List.set_cons_zero, List.set_cons_succ]
            refine wpAnyH_take (i := 22) (oi := { dst := some 120, op := _, type := _, pos := _, after := _, guard := _ }) (v := ?_) rfl (by kernel_rfl) (by kernel_rfl) (by kernel_rfl) (fun _ _ _ h => h) (Or.inl ⟨by rfl, ?_⟩) (by assumption) ?_
            rotate_left
            · intro w' hSw
              try dsimp only at hSw
              go_simp
              try with_reducible rfl
            try simp only [Act.put, List.setIfInBounds_toArray, List.set_cons_zero, List.set_cons_succ]
            refine wpAnyH_take (i := 23) (oi := { dst := some 121, op := _, type := _, pos := _, after := _, guard := _ }) (v := ?_) rfl (by kernel_rfl) (by kernel_rfl) (by kernel_rfl) (fun _ _ _ h => h) (Or.inl ⟨by rfl, ?_⟩) (by assumption) ?_
            rotate_left
            · intro w' hSw
              try dsimp only at hSw
              go_simp
              try with_reducible rfl
            try simp only [Act.put, List.setIfInBounds_toArray, List.set_cons_zero, List.set_cons_succ]
            refine wpAnyH_take (i := 24) (oi := { dst := some 122, op := _, type := _, pos := _, after := _, guard := _ }) (v := ?_) rfl (by kernel_rfl) (by kernel_rfl) (by kernel_rfl) (fun _ _ _ h => h) (Or.inl ⟨by rfl, ?_⟩) (by assumption) ?_
            rotate_left
            · intro w' hSw
              try dsimp only at hSw
              go_simp
              try with_reducible rfl
            try simp only [Act.put, List.setIfInBounds_toArray, List.set_cons_zero, List.set_cons_succ]
            refine wpAnyH_take (i := 25) (oi := { dst := some 123, op := _, type := _, pos := _, after := _, guard := _ }) (v := ?_) rfl (by kernel_rfl) (by kernel_rfl) (by kernel_rfl) (fun _ _ _ h => h) (Or.inl ⟨by rfl, ?_⟩) (by assumption) ?_
            rotate_left
            · intro w' hSw
              try dsimp only at hSw
              go_simp
              try with_reducible rfl
            try simp only [Act.put, List.setIfInBounds_toArray, List.set_cons_zero, List.set_cons_succ]
            refine wpAnyH_take (i := 26) (oi := { dst := some 124, op := _, type := _, pos := _, after := _, guard := _ }) (v := undef) rfl (by kernel_rfl) (by kernel_rfl) (by kernel_rfl) (fun _ _ _ h => h) (Or.inr ⟨by rfl, rfl⟩) (by assumption) ?_
            try simp only [Act.put, List.setIfInBounds_toArray, List.set_cons_zero, List.set_cons_succ]
            refine wpAnyH_take (i := 27) (oi := { dst := some 125, op := _, type := _, pos := _, after := _, guard := _ }) (v := undef) rfl (by kernel_rfl) (by kernel_rfl) (by kernel_rfl) (fun _ _ _ h => h) (Or.inr ⟨by rfl, rfl⟩) (by assumption) ?_
            try simp only [Act.put, List.setIfInBounds_toArray, List.set_cons_zero, List.set_cons_succ]
            refine wpAnyH_take (i := 28) (oi := { dst := some 126, op := _, type := _, pos := _, after := _, guard := _ }) (v := undef) rfl (by kernel_rfl) (by kernel_rfl) (by kernel_rfl) (fun _ _ _ h => h) (Or.inr ⟨by rfl, rfl⟩) (by assumption) ?_
            try simp only [Act.put, List.setIfInBounds_toArray, List.set_cons_zero, List.set_cons_succ]
            refine wpAnyH_take (i := 29) (oi := { dst := some 127, op := _, type := _, pos := _, after := _, guard := _ }) (v := undef) rfl (by kernel_rfl) (by kernel_rfl) (by kernel_rfl) (fun _ _ _ h => h) (Or.inr ⟨by rfl, rfl⟩) (by assumption) ?_
            try simp only [Act.put, List.setIfInBounds_toArray, List.set_cons_zero, List.set_cons_succ]
            refine wpAnyH_take (i := 30) (oi := { dst := some 128, op := _, type := _, pos := _, after := _, guard := _ }) (v := undef) rfl (by kernel_rfl) (by kernel_rfl) (by kernel_rfl) (fun _ _ _ h => h) (Or.inr ⟨by rfl, rfl⟩) (by assumption) ?_
            try simp only [Act.put, List.setIfInBounds_toArray, List.set_cons_zero, List.set_cons_succ]
            refine wpAnyH_take (i := 31) (oi := { dst := some 129, op := _, type := _, pos := _, after := _, guard := _ }) (v := undef) rfl (by kernel_rfl) (by kernel_rfl) (by kernel_rfl) (fun _ _ _ h => h) (Or.inr ⟨by rfl, rfl⟩) (by assumption) ?_
            try simp only [Act.put, List.setIfInBounds_toArray, List.set_cons_zero, List.set_cons_succ]
            refine wpAnyH_take (i := 32) (oi := { dst := some 130, op := _, type := _, pos := _, after := _, guard := _ }) (v := ?_) rfl (by kernel_rfl) (by kernel_rfl) (by kernel_rfl) (fun _ _ _ h => h) (Or.inl ⟨by rfl, ?_⟩) (by assumption) ?_
            rotate_left
            · intro w' hSw
              try dsimp only at hSw
              go_simp
              try with_reducible rfl
            try simp only [Act.put, List.setIfInBounds_toArray, List.set_cons_zero, List.set_cons_succ]
            refine wpAnyH_take (i := 33) (oi := { dst := some 131, op := _, type := _, pos := _, after := _, guard := _ }) (v := ?_) rfl (by kernel_rfl) (by kernel_rfl) (by kernel_rfl) (fun _ _ _ h => h) (Or.inl ⟨by rfl, ?_⟩) (by assumption) ?_
            rotate_left
            · intro w' hSw
              try dsimp only at hSw
              go_simp
              try with_reducible rfl
            try simp only [Act.put, List.setIfInBounds_toArray, List.set_cons_zero, List.set_cons_succ]
            refine wpAnyH_take (i := 34) (oi := { dst := some 4, op := _, type := _, pos := _, after := _, guard := _ }) (v := ?_) rfl (by kernel_rfl) (by kernel_rfl) (by kernel_rfl) (fun _ _ _ h => h) (Or.inl ⟨by rfl, ?_⟩) (by assumption) ?_
            rotate_left
            · intro w' hSw
              try dsimp only at hSw
              go_simp
              try with_reducible rfl
            try simp only [Act.put, List.setIfInBounds_toArray, List.set_cons_zero, List.set_cons_succ]
            refine wpAnyH_done (by kernel_rfl) ?_ _
            go_wp2
            go_ret
            exact ⟨rfl, BS.out⟩
          case true =>
            have hsz16 : IntKind.i64.wrap (HS + 16) = HS + 16 := IntWalk.i64_in _ (by omega)
            have hszN : (N : Int) = HS + 16 := (HFIT.out (HFB.out.1 rfl)).symm
            have hszB : ((N : Int) == HS + 16) = true := by rw [beq_iff_eq]; exact hszN
            clear hszN
            refine wp_region_held_drew (S := fun W' => W'.cell? ⟨W7.heap.size, 0, none⟩ = some (Value.int .i64 mm') ∧ W'.cell? ⟨W7.heap.size, 1, none⟩ = some (Value.int .i64 y') ∧ W'.cell? ⟨W7.heap.size, 2, none⟩ = some (Value.int .i64 mo') ∧ W'.cell? ⟨W7.heap.size, 3, none⟩ = some (Value.int .i64 dd') ∧ W'.cell? ⟨W7.heap.size, 4, none⟩ = some (Value.int .i64 hh') ∧ W'.cell? ⟨W7.heap.size, 5, none⟩ = some (Value.int .i64 mi') ∧ W'.cell? ⟨W7.heap.size, 6, none⟩ = some (Value.int .i64 s') ∧ W'.cell? ⟨W7.heap.size, 7, none⟩ = some (Value.int .u32 sum') ∧ W'.cell? ⟨W7.heap.size, 8, none⟩ = some (Value.int .u64 p') ∧ W'.cell? ⟨W7.heap.size, 9, none⟩ = some (Value.int .u64 z') ∧ W'.cell? ⟨W7.heap.size, 10, none⟩ = some (Value.string (S nm')) ∧ W'.cell? ⟨W7.heap.size, 11, none⟩ = some (Value.int .u32 k') ∧ W'.cell? ⟨W7.heap.size, 12, none⟩ = some (Value.int .u64 o') ∧ W'.cell? ⟨w.heap.size, 0, none⟩ = some (Value.int .i64 mm) ∧ W'.cell? ⟨w.heap.size, 1, none⟩ = some (Value.int .i64 y) ∧ W'.cell? ⟨w.heap.size, 2, none⟩ = some (Value.int .i64 mo) ∧ W'.cell? ⟨w.heap.size, 3, none⟩ = some (Value.int .i64 dd) ∧ W'.cell? ⟨w.heap.size, 4, none⟩ = some (Value.int .i64 hh) ∧ W'.cell? ⟨w.heap.size, 5, none⟩ = some (Value.int .i64 mi) ∧ W'.cell? ⟨w.heap.size, 6, none⟩ = some (Value.int .i64 s) ∧ W'.cell? ⟨w.heap.size, 7, none⟩ = some (Value.int .u32 sum) ∧ W'.cell? ⟨w.heap.size, 8, none⟩ = some (Value.int .u64 p) ∧ W'.cell? ⟨w.heap.size, 9, none⟩ = some (Value.int .u64 z) ∧ W'.cell? ⟨w.heap.size, 10, none⟩ = some (Value.string (S nm)) ∧ W'.cell? ⟨w.heap.size, 11, none⟩ = some (Value.int .u32 k) ∧ W'.cell? ⟨w.heap.size, 12, none⟩ = some (Value.int .u64 o) ∧ W'.cell? ⟨(w.heap.size + 1), 0, none⟩ = some (Value.int .i64 mm') ∧ W'.cell? ⟨(w.heap.size + 1), 1, none⟩ = some (Value.int .i64 y') ∧ W'.cell? ⟨(w.heap.size + 1), 2, none⟩ = some (Value.int .i64 mo') ∧ W'.cell? ⟨(w.heap.size + 1), 3, none⟩ = some (Value.int .i64 dd') ∧ W'.cell? ⟨(w.heap.size + 1), 4, none⟩ = some (Value.int .i64 hh') ∧ W'.cell? ⟨(w.heap.size + 1), 5, none⟩ = some (Value.int .i64 mi') ∧ W'.cell? ⟨(w.heap.size + 1), 6, none⟩ = some (Value.int .i64 s') ∧ W'.cell? ⟨(w.heap.size + 1), 7, none⟩ = some (Value.int .u32 sum') ∧ W'.cell? ⟨(w.heap.size + 1), 8, none⟩ = some (Value.int .u64 p') ∧ W'.cell? ⟨(w.heap.size + 1), 9, none⟩ = some (Value.int .u64 z') ∧ W'.cell? ⟨(w.heap.size + 1), 10, none⟩ = some (Value.string (S nm')) ∧ W'.cell? ⟨(w.heap.size + 1), 11, none⟩ = some (Value.int .u32 k') ∧ W'.cell? ⟨(w.heap.size + 1), 12, none⟩ = some (Value.int .u64 o')) (by kernel_rfl) ?_ (fun hHeld => ?_)
            · exact ⟨ED.out.cell 0, ED.out.cell 1, ED.out.cell 2, ED.out.cell 3, ED.out.cell 4, ED.out.cell 5, ED.out.cell 6, ED.out.cell 7, ED.out.cell 8, ED.out.cell 9, ED.out.cell 10, ED.out.cell 11, ED.out.cell 12, KD.out.cell 0, KD.out.cell 1, KD.out.cell 2, KD.out.cell 3, KD.out.cell 4, KD.out.cell 5, KD.out.cell 6, KD.out.cell 7, KD.out.cell 8, KD.out.cell 9, KD.out.cell 10, KD.out.cell 11, KD.out.cell 12, JD.out.cell 0, JD.out.cell 1, JD.out.cell 2, JD.out.cell 3, JD.out.cell 4, JD.out.cell 5, JD.out.cell 6, JD.out.cell 7, JD.out.cell 8, JD.out.cell 9, JD.out.cell 10, JD.out.cell 11, JD.out.cell 12⟩
            refine wpAnyH_take (i := 0) (oi := { dst := some 98, op := _, type := _, pos := _, after := _, guard := _ }) (v := ?_) rfl (by kernel_rfl) (by kernel_rfl) (by kernel_rfl) (fun _ _ _ h => h) (Or.inl ⟨by rfl, ?_⟩) (by assumption) ?_
            rotate_left
            · intro w' hSw
              try dsimp only at hSw
              go_simp
              try with_reducible rfl
            try simp only [Act.put, List.setIfInBounds_toArray, List.set_cons_zero, List.set_cons_succ]
            refine wpAnyH_take (i := 1) (oi := { dst := some 99, op := _, type := _, pos := _, after := _, guard := _ }) (v := ?_) rfl (by kernel_rfl) (by kernel_rfl) (by kernel_rfl) (fun _ _ _ h => h) (Or.inl ⟨by rfl, ?_⟩) (by assumption) ?_
            rotate_left
            · intro w' hSw
              try dsimp only at hSw
              go_simp
              try with_reducible rfl
            try simp only [Act.put, List.setIfInBounds_toArray, List.set_cons_zero, List.set_cons_succ]
            refine wpAnyH_take (i := 2) (oi := { dst := some 100, op := _, type := _, pos := _, after := _, guard := _ }) (v := ?_) rfl (by kernel_rfl) (by kernel_rfl) (by kernel_rfl) (fun _ _ _ h => h) (Or.inl ⟨by rfl, ?_⟩) (by assumption) ?_
            rotate_left
            · intro w' hSw
              try dsimp only at hSw
              go_simp
              try with_reducible rfl
            try simp only [Act.put, List.setIfInBounds_toArray, List.set_cons_zero, List.set_cons_succ]
            refine wpAnyH_take (i := 3) (oi := { dst := some 101, op := _, type := _, pos := _, after := _, guard := _ }) (v := ?_) rfl (by kernel_rfl) (by kernel_rfl) (by kernel_rfl) (fun _ _ _ h => h) (Or.inl ⟨by rfl, ?_⟩) (by assumption) ?_
            rotate_left
            · intro w' hSw
              try dsimp only at hSw
              go_simp
              try with_reducible rfl
            try simp only [Act.put, List.setIfInBounds_toArray, List.set_cons_zero, List.set_cons_succ]
            refine wpAnyH_take (i := 4) (oi := { dst := some 102, op := _, type := _, pos := _, after := _, guard := _ }) (v := ?_) rfl (by kernel_rfl) (by kernel_rfl) (by kernel_rfl) (fun _ _ _ h => h) (Or.inl ⟨by rfl, ?_⟩) (by assumption) ?_
            rotate_left
            · intro w' hSw
              try dsimp only at hSw
              go_simp
              try with_reducible rfl
            try simp only [Act.put, List.setIfInBounds_toArray, List.set_cons_zero, List.set_cons_succ]
            refine wpAnyH_take (i := 5) (oi := { dst := some 103, op := _, type := _, pos := _, after := _, guard := _ }) (v := ?_) rfl (by kernel_rfl) (by kernel_rfl) (by kernel_rfl) (fun _ _ _ h => h) (Or.inl ⟨by rfl, ?_⟩) (by assumption) ?_
            rotate_left
            · intro w' hSw
              try dsimp only at hSw
              go_simp
              try with_reducible rfl
            try simp only [Act.put, List.setIfInBounds_toArray, List.set_cons_zero, List.set_cons_succ]
            refine wpAnyH_take (i := 6) (oi := { dst := some 104, op := _, type := _, pos := _, after := _, guard := _ }) (v := ?_) rfl (by kernel_rfl) (by kernel_rfl) (by kernel_rfl) (fun _ _ _ h => h) (Or.inl ⟨by rfl, ?_⟩) (by assumption) ?_
            rotate_left
            · intro w' hSw
              try dsimp only at hSw
              go_simp
              try with_reducible rfl
            try simp only [Act.put, List.setIfInBounds_toArray, List.set_cons_zero, List.set_cons_succ]
            refine wpAnyH_take (i := 7) (oi := { dst := some 105, op := _, type := _, pos := _, after := _, guard := _ }) (v := ?_) rfl (by kernel_rfl) (by kernel_rfl) (by kernel_rfl) (fun _ _ _ h => h) (Or.inl ⟨by rfl, ?_⟩) (by assumption) ?_
            rotate_left
            · intro w' hSw
              try dsimp only at hSw
              go_simp
              try with_reducible rfl
            try simp only [Act.put, List.setIfInBounds_toArray, List.set_cons_zero, List.set_cons_succ]
            refine wpAnyH_take (i := 8) (oi := { dst := some 106, op := _, type := _, pos := _, after := _, guard := _ }) (v := ?_) rfl (by kernel_rfl) (by kernel_rfl) (by kernel_rfl) (fun _ _ _ h => h) (Or.inl ⟨by rfl, ?_⟩) (by assumption) ?_
            rotate_left
            · intro w' hSw
              try dsimp only at hSw
              go_simp
              try with_reducible rfl
            try simp only [Act.put, List.setIfInBounds_toArray, List.set_cons_zero, List.set_cons_succ]
            refine wpAnyH_take (i := 9) (oi := { dst := some 107, op := _, type := _, pos := _, after := _, guard := _ }) (v := ?_) rfl (by kernel_rfl) (by kernel_rfl) (by kernel_rfl) (fun _ _ _ h => h) (Or.inl ⟨by rfl, ?_⟩) (by assumption) ?_
            rotate_left
            · intro w' hSw
              try dsimp only at hSw
              go_simp
              try with_reducible rfl
            try simp only [Act.put, List.setIfInBounds_toArray, List.set_cons_zero, List.set_cons_succ]
            refine wpAnyH_take (i := 10) (oi := { dst := some 108, op := _, type := _, pos := _, after := _, guard := _ }) (v := ?_) rfl (by kernel_rfl) (by kernel_rfl) (by kernel_rfl) (fun _ _ _ h => h) (Or.inl ⟨by rfl, ?_⟩) (by assumption) ?_
            rotate_left
            · intro w' hSw
              try dsimp only at hSw
              go_simp
              try with_reducible rfl
            try simp only [Act.put, List.setIfInBounds_toArray, List.set_cons_zero, List.set_cons_succ]
            refine wpAnyH_take (i := 11) (oi := { dst := some 109, op := _, type := _, pos := _, after := _, guard := _ }) (v := ?_) rfl (by kernel_rfl) (by kernel_rfl) (by kernel_rfl) (fun _ _ _ h => h) (Or.inl ⟨by rfl, ?_⟩) (by assumption) ?_
            rotate_left
            · intro w' hSw
              try dsimp only at hSw
              go_simp
              try with_reducible rfl
            try simp only [Act.put, List.setIfInBounds_toArray, List.set_cons_zero, List.set_cons_succ]
            refine wpAnyH_take (i := 12) (oi := { dst := some 110, op := _, type := _, pos := _, after := _, guard := _ }) (v := ?_) rfl (by kernel_rfl) (by kernel_rfl) (by kernel_rfl) (fun _ _ _ h => h) (Or.inl ⟨by rfl, ?_⟩) (by assumption) ?_
            rotate_left
            · intro w' hSw
              try dsimp only at hSw
              go_simp
              try with_reducible rfl
            try simp only [Act.put, List.setIfInBounds_toArray, List.set_cons_zero, List.set_cons_succ]
            refine wpAnyH_take (i := 13) (oi := { dst := some 111, op := _, type := _, pos := _, after := _, guard := _ }) (v := ?_) rfl (by kernel_rfl) (by kernel_rfl) (by kernel_rfl) (fun _ _ _ h => h) (Or.inl ⟨by rfl, ?_⟩) (by assumption) ?_
            rotate_left
            · intro w' hSw
              try dsimp only at hSw
              go_simp
              try with_reducible rfl
            try simp only [Act.put, List.setIfInBounds_toArray, List.set_cons_zero, List.set_cons_succ]
            refine wpAnyH_take (i := 14) (oi := { dst := some 112, op := _, type := _, pos := _, after := _, guard := _ }) (v := ?_) rfl (by kernel_rfl) (by kernel_rfl) (by kernel_rfl) (fun _ _ _ h => h) (Or.inl ⟨by rfl, ?_⟩) (by assumption) ?_
            rotate_left
            · intro w' hSw
              try dsimp only at hSw
              go_simp
              try with_reducible rfl
            try simp only [Act.put, List.setIfInBounds_toArray, List.set_cons_zero, List.set_cons_succ]
            refine wpAnyH_take (i := 15) (oi := { dst := some 113, op := _, type := _, pos := _, after := _, guard := _ }) (v := ?_) rfl (by kernel_rfl) (by kernel_rfl) (by kernel_rfl) (fun _ _ _ h => h) (Or.inl ⟨by rfl, ?_⟩) (by assumption) ?_
            rotate_left
            · intro w' hSw
              try dsimp only at hSw
              go_simp
              try with_reducible rfl
            try simp only [Act.put, List.setIfInBounds_toArray, List.set_cons_zero, List.set_cons_succ]
            refine wpAnyH_take (i := 17) (oi := { dst := some 115, op := _, type := _, pos := _, after := _, guard := _ }) (v := ?_) rfl (by kernel_rfl) (by kernel_rfl) (by kernel_rfl) (fun _ _ _ h => h) (Or.inl ⟨by rfl, ?_⟩) (by assumption) ?_
            rotate_left
            · intro w' hSw
              try dsimp only at hSw
              go_simp
              try with_reducible rfl
            try simp only [Act.put, List.setIfInBounds_toArray, List.set_cons_zero, List.set_cons_succ]
            refine wpAnyH_take (i := 18) (oi := { dst := some 116, op := _, type := _, pos := _, after := _, guard := _ }) (v := ?_) rfl (by kernel_rfl) (by kernel_rfl) (by kernel_rfl) (fun _ _ _ h => h) (Or.inl ⟨by rfl, ?_⟩) (by assumption) ?_
            rotate_left
            · intro w' hSw
              try dsimp only at hSw
              go_simp
              try with_reducible rfl
            try simp only [Act.put, List.setIfInBounds_toArray, List.set_cons_zero, List.set_cons_succ]
            refine wpAnyH_take (i := 19) (oi := { dst := some 117, op := _, type := _, pos := _, after := _, guard := _ }) (v := ?_) rfl (by kernel_rfl) (by kernel_rfl) (by kernel_rfl) (fun _ _ _ h => h) (Or.inl ⟨by rfl, ?_⟩) (by assumption) ?_
            rotate_left
            · intro w' hSw
              try dsimp only at hSw
              go_simp
              try with_reducible rfl
            try simp only [Act.put, List.setIfInBounds_toArray, List.set_cons_zero, List.set_cons_succ]
            refine wpAnyH_ready (rs := [16]) (by kernel_rfl) (by simp) ?_
            refine AllReadyH.cons (o := { dst := some 114, op := _, type := _, pos := _, after := _, guard := _ }) rfl (fun K hK => ?_) AllReadyH.nil
            go_simp
            go_at_call 12
            refine (HSM.out _ _).mono ?_
            rintro e _ ⟨rfl, q2, rfl⟩
            try go_wp2_with fail
            have ES : Hid (Blk (W9.drewN (1 + q2)) W7.heap.size 29 #[.int .i64 mm', .int .i64 y', .int .i64 mo', .int .i64 dd', .int .i64 hh', .int .i64 mi', .int .i64 s', .int .u32 sum', .int .u64 p', .int .u64 z', .string (S nm'), .int .u32 k', .int .u64 o']) := (show Blk W9 W7.heap.size 29 #[.int .i64 mm', .int .i64 y', .int .i64 mo', .int .i64 dd', .int .i64 hh', .int .i64 mi', .int .i64 s', .int .u32 sum', .int .u64 p', .int .u64 z', .string (S nm'), .int .u32 k', .int .u64 o'] from E9.out)
            have KS : Hid (Blk (W9.drewN (1 + q2)) w.heap.size 29 #[.int .i64 mm, .int .i64 y, .int .i64 mo, .int .i64 dd, .int .i64 hh, .int .i64 mi, .int .i64 s, .int .u32 sum, .int .u64 p, .int .u64 z, .string (S nm), .int .u32 k, .int .u64 o]) := (show Blk W9 w.heap.size 29 #[.int .i64 mm, .int .i64 y, .int .i64 mo, .int .i64 dd, .int .i64 hh, .int .i64 mi, .int .i64 s, .int .u32 sum, .int .u64 p, .int .u64 z, .string (S nm), .int .u32 k, .int .u64 o] from K9.out)
            have JS : Hid (Blk (W9.drewN (1 + q2)) (w.heap.size + 1) 29 #[.int .i64 mm', .int .i64 y', .int .i64 mo', .int .i64 dd', .int .i64 hh', .int .i64 mi', .int .i64 s', .int .u32 sum', .int .u64 p', .int .u64 z', .string (S nm'), .int .u32 k', .int .u64 o']) := (show Blk W9 (w.heap.size + 1) 29 #[.int .i64 mm', .int .i64 y', .int .i64 mo', .int .i64 dd', .int .i64 hh', .int .i64 mi', .int .i64 s', .int .u32 sum', .int .u64 p', .int .u64 z', .string (S nm'), .int .u32 k', .int .u64 o'] from J9.out)
            have BS := Lib.hid (below_drewN B9.out (1 + q2))
            refine hK.out _ _ ?_ (fun hHeld => ?_)
            · exact ⟨ES.out.cell 0, ES.out.cell 1, ES.out.cell 2, ES.out.cell 3, ES.out.cell 4, ES.out.cell 5, ES.out.cell 6, ES.out.cell 7, ES.out.cell 8, ES.out.cell 9, ES.out.cell 10, ES.out.cell 11, ES.out.cell 12, KS.out.cell 0, KS.out.cell 1, KS.out.cell 2, KS.out.cell 3, KS.out.cell 4, KS.out.cell 5, KS.out.cell 6, KS.out.cell 7, KS.out.cell 8, KS.out.cell 9, KS.out.cell 10, KS.out.cell 11, KS.out.cell 12, JS.out.cell 0, JS.out.cell 1, JS.out.cell 2, JS.out.cell 3, JS.out.cell 4, JS.out.cell 5, JS.out.cell 6, JS.out.cell 7, JS.out.cell 8, JS.out.cell 9, JS.out.cell 10, JS.out.cell 11, JS.out.cell 12⟩
            clear hK K
            try simp only [Act.put, List.setIfInBounds_toArray, List.set_cons_zero, List.set_cons_succ]
            refine wpAnyH_take (i := 20) (oi := { dst := some 118, op := _, type := _, pos := _, after := _, guard := _ }) (v := ?_) rfl (by kernel_rfl) (by kernel_rfl) (by kernel_rfl) (fun _ _ _ h => h) (Or.inl ⟨by rfl, ?_⟩) (by assumption) ?_
            rotate_left
            · intro w' hSw
              try dsimp only at hSw
              go_simp
              try with_reducible rfl
            try simp only [Act.put, List.setIfInBounds_toArray, List.set_cons_zero, List.set_cons_succ]
            refine wpAnyH_take (i := 21) (oi := { dst := some 119, op := _, type := _, pos := _, after := _, guard := _ }) (v := ?_) rfl (by kernel_rfl) (by kernel_rfl) (by kernel_rfl) (fun _ _ _ h => h) (Or.inl ⟨by rfl, ?_⟩) (by assumption) ?_
            rotate_left
            · intro w' hSw
              try dsimp only at hSw
              go_simp
              try with_reducible rfl
            try simp only [Act.put, List.setIfInBounds_toArray, List.set_cons_zero, List.set_cons_succ]
            refine wpAnyH_take (i := 22) (oi := { dst := some 120, op := _, type := _, pos := _, after := _, guard := _ }) (v := ?_) rfl (by kernel_rfl) (by kernel_rfl) (by kernel_rfl) (fun _ _ _ h => h) (Or.inl ⟨by rfl, ?_⟩) (by assumption) ?_
            rotate_left
            · intro w' hSw
              try dsimp only at hSw
              go_simp
              try with_reducible rfl
            try simp only [Act.put, List.setIfInBounds_toArray, List.set_cons_zero, List.set_cons_succ]
            refine wpAnyH_take (i := 23) (oi := { dst := some 121, op := _, type := _, pos := _, after := _, guard := _ }) (v := ?_) rfl (by kernel_rfl) (by kernel_rfl) (by kernel_rfl) (fun _ _ _ h => h) (Or.inl ⟨by rfl, ?_⟩) (by assumption) ?_
            rotate_left
            · intro w' hSw
              try dsimp only at hSw
              go_simp
              try with_reducible rfl
            try simp only [Act.put, List.setIfInBounds_toArray, List.set_cons_zero, List.set_cons_succ]
            refine wpAnyH_take (i := 24) (oi := { dst := some 122, op := _, type := _, pos := _, after := _, guard := _ }) (v := ?_) rfl (by kernel_rfl) (by kernel_rfl) (by kernel_rfl) (fun _ _ _ h => h) (Or.inl ⟨by rfl, ?_⟩) (by assumption) ?_
            rotate_left
            · intro w' hSw
              try dsimp only at hSw
              go_simp
              try with_reducible rfl
            try simp only [Act.put, List.setIfInBounds_toArray, List.set_cons_zero, List.set_cons_succ]
            refine wpAnyH_take (i := 25) (oi := { dst := some 123, op := _, type := _, pos := _, after := _, guard := _ }) (v := ?_) rfl (by kernel_rfl) (by kernel_rfl) (by kernel_rfl) (fun _ _ _ h => h) (Or.inl ⟨by rfl, ?_⟩) (by assumption) ?_
            rotate_left
            · intro w' hSw
              try dsimp only at hSw
              go_simp
              try with_reducible rfl
            try simp only [Act.put, List.setIfInBounds_toArray, List.set_cons_zero, List.set_cons_succ]
            refine wpAnyH_take (i := 26) (oi := { dst := some 124, op := _, type := _, pos := _, after := _, guard := _ }) (v := ?_) rfl (by kernel_rfl) (by kernel_rfl) (by kernel_rfl) (fun _ _ _ h => h) (Or.inl ⟨by rfl, ?_⟩) (by assumption) ?_
            rotate_left
            · intro w' hSw
              try dsimp only at hSw
              go_simp
              try with_reducible rfl
            try simp only [Act.put, List.setIfInBounds_toArray, List.set_cons_zero, List.set_cons_succ]
            refine wpAnyH_take (i := 27) (oi := { dst := some 125, op := _, type := _, pos := _, after := _, guard := _ }) (v := ?_) rfl (by kernel_rfl) (by kernel_rfl) (by kernel_rfl) (fun _ _ _ h => h) (Or.inl ⟨by rfl, ?_⟩) (by assumption) ?_
            rotate_left
            · intro w' hSw
              try dsimp only at hSw
              go_simp
              try with_reducible rfl
            try simp only [Act.put, List.setIfInBounds_toArray, List.set_cons_zero, List.set_cons_succ]
            refine wpAnyH_take (i := 28) (oi := { dst := some 126, op := _, type := _, pos := _, after := _, guard := _ }) (v := ?_) rfl (by kernel_rfl) (by kernel_rfl) (by kernel_rfl) (fun _ _ _ h => h) (Or.inl ⟨by rfl, ?_⟩) (by assumption) ?_
            rotate_left
            · intro w' hSw
              try dsimp only at hSw
              go_simp
              try with_reducible rfl
            try simp only [Act.put, List.setIfInBounds_toArray, List.set_cons_zero, List.set_cons_succ]
            refine wpAnyH_ready (rs := [29]) (by kernel_rfl) (by simp) ?_
            refine AllReadyH.cons (o := { dst := some 127, op := _, type := _, pos := _, after := _, guard := _ }) rfl (fun K hK => ?_) AllReadyH.nil
            go_simp
            go_at_call 18
            refine (HSL.out _).mono ?_
            rintro e W11 ⟨rfl, hb11⟩
            try go_wp2_with fail
            have EZ := Lib.hid (ES.out.below ES.out.lt hb11)
            have KZ := Lib.hid (KS.out.below KS.out.lt hb11)
            have JZ := Lib.hid (JS.out.below JS.out.lt hb11)
            have BZ := Lib.hid (BS.out.trans (hb11.mono BS.out.size))
            refine hK.out _ _ ?_ (fun hHeld => ?_)
            · exact ⟨EZ.out.cell 0, EZ.out.cell 1, EZ.out.cell 2, EZ.out.cell 3, EZ.out.cell 4, EZ.out.cell 5, EZ.out.cell 6, EZ.out.cell 7, EZ.out.cell 8, EZ.out.cell 9, EZ.out.cell 10, EZ.out.cell 11, EZ.out.cell 12, KZ.out.cell 0, KZ.out.cell 1, KZ.out.cell 2, KZ.out.cell 3, KZ.out.cell 4, KZ.out.cell 5, KZ.out.cell 6, KZ.out.cell 7, KZ.out.cell 8, KZ.out.cell 9, KZ.out.cell 10, KZ.out.cell 11, KZ.out.cell 12, JZ.out.cell 0, JZ.out.cell 1, JZ.out.cell 2, JZ.out.cell 3, JZ.out.cell 4, JZ.out.cell 5, JZ.out.cell 6, JZ.out.cell 7, JZ.out.cell 8, JZ.out.cell 9, JZ.out.cell 10, JZ.out.cell 11, JZ.out.cell 12⟩
            clear hK K
            try simp only [Act.put, List.setIfInBounds_toArray, List.set_cons_zero, List.set_cons_succ]
            refine wpAnyH_take (i := 30) (oi := { dst := some 128, op := _, type := _, pos := _, after := _, guard := _ }) (v := ?_) rfl (by kernel_rfl) (by kernel_rfl) (by kernel_rfl) (fun _ _ _ h => h) (Or.inl ⟨by rfl, ?_⟩) (by assumption) ?_
            rotate_left
            · intro w' hSw
              try dsimp only at hSw
              go_simp
              try with_reducible rfl
            try simp only [Act.put, List.setIfInBounds_toArray, List.set_cons_zero, List.set_cons_succ]
            refine wpAnyH_take (i := 31) (oi := { dst := some 129, op := _, type := _, pos := _, after := _, guard := _ }) (v := ?_) rfl (by kernel_rfl) (by kernel_rfl) (by kernel_rfl) (fun _ _ _ h => h) (Or.inl ⟨by rfl, ?_⟩) (by assumption) ?_
            rotate_left
            · intro w' hSw
              try dsimp only at hSw
              go_simp
              try with_reducible rfl
            try simp only [Act.put, List.setIfInBounds_toArray, List.set_cons_zero, List.set_cons_succ]
            refine wpAnyH_take (i := 32) (oi := { dst := some 130, op := _, type := _, pos := _, after := _, guard := _ }) (v := ?_) rfl (by kernel_rfl) (by kernel_rfl) (by kernel_rfl) (fun _ _ _ h => h) (Or.inl ⟨by rfl, ?_⟩) (by assumption) ?_
            rotate_left
            · intro w' hSw
              try dsimp only at hSw
              go_simp
              try with_reducible rfl
            try simp only [Act.put, List.setIfInBounds_toArray, List.set_cons_zero, List.set_cons_succ]
            refine wpAnyH_take (i := 33) (oi := { dst := some 131, op := _, type := _, pos := _, after := _, guard := _ }) (v := ?_) rfl (by kernel_rfl) (by kernel_rfl) (by kernel_rfl) (fun _ _ _ h => h) (Or.inl ⟨by rfl, ?_⟩) (by assumption) ?_
            rotate_left
            · intro w' hSw
              try dsimp only at hSw
              go_simp
              try with_reducible rfl
            try simp only [Act.put, List.setIfInBounds_toArray, List.set_cons_zero, List.set_cons_succ]
            refine wpAnyH_take (i := 34) (oi := { dst := some 4, op := _, type := _, pos := _, after := _, guard := _ }) (v := ?_) rfl (by kernel_rfl) (by kernel_rfl) (by kernel_rfl) (fun _ _ _ h => h) (Or.inl ⟨by rfl, ?_⟩) (by assumption) ?_
            rotate_left
            · intro w' hSw
              try dsimp only at hSw
              go_simp
              try with_reducible rfl
            try simp only [Act.put, List.setIfInBounds_toArray, List.set_cons_zero, List.set_cons_succ]
            refine wpAnyH_done (by kernel_rfl) ?_ _
            go_wp2
            go_ret
            exact ⟨rfl, BZ.out⟩
      · have bL : (chkH b.h != 0) = true := by rw [bne_iff_ne]; exact hkb
        have bK : (chkH a.h != 0) = false := by rw [hka]; rfl
        clear hka hkb
        have i1 : ¬ (300 : Int) < ((S a.h.nm).size : Int) := by omega
        have i2 : ¬ (300 : Int) < ((S b.h.nm).size : Int) := by omega
        have j1 : decide ((300 : Int) < ((S a.h.nm).size : Int)) = false := decide_eq_false i1
        have j2 : decide ((300 : Int) < ((S b.h.nm).size : Int)) = false := decide_eq_false i2
        have HW := Lib.hid (WriteC_c a hw (by omega))
        have HV := Lib.hid (WriteC_c b hw2 (by omega))
        clear hw hw2 ht hsS hsT hb HK i1 i2 hm hm2
        generalize chkH a.h = K at *
        generalize chkH b.h = L at *
        obtain ⟨⟨mm, ⟨y, mo, dd, hh, mi, s⟩, sum, p, z, nm⟩, k, o⟩ := a
        obtain ⟨⟨mm', ⟨y', mo', dd', hh', mi', s'⟩, sum', p', z', nm'⟩, k', o'⟩ := b
        unfold rcV rcC at *
        dsimp only at *
        go_enter Tryd.func6, Tryd.ntmps6
        go_wp2_with fail
        refine (HAL.out _ ((HT.out.alloc _).alloc _)).mono ?_
        rintro e W1 ⟨rfl, hb1⟩
        have K1 := Lib.hid (HK2.out.below HK2.out.lt hb1)
        have J1 := Lib.hid (HJ.out.below HJ.out.lt hb1)
        have B1 := Lib.hid (HBL.out.trans (hb1.mono HBL.out.size))
        clear hb1 HK2 HJ HBL HAL
        have c10 := (K1.out.cell 10).trans rfl
        have d10 := (J1.out.cell 10).trans rfl
        have q1 := ld_rc K1.out rfl
        go_wp2_with (with_reducible refine wpList_load_var _ _ (by with_unfolding_all rfl) q1 ?_)
        refine (HW.out _ (HT.out.below B1.out)).mono ?_
        rintro e W2 ⟨A2, N2, d2, rfl, _, hb2⟩
        have J2 := Lib.hid (J1.out.below J1.out.lt hb2)
        have B2 := Lib.hid (B1.out.trans (hb2.mono B1.out.size))
        clear hb2 K1 J1 B1 c10 d10 q1
        have q2 := ld_rc J2.out rfl
        go_wp2_with (with_reducible refine wpList_load_var _ _ (by with_unfolding_all rfl) q2 ?_)
        refine (HV.out _ (HT.out.below B2.out)).mono ?_
        rintro e W3 ⟨A3, N3, d3, rfl, _, hb3⟩
        go_wp2
        go_ret
        exact ⟨rfl, B2.out.trans (hb3.mono B2.out.size)⟩
    · have bK : (chkH a.h != 0) = true := by rw [bne_iff_ne]; exact hka
      clear hka
      have i1 : ¬ (300 : Int) < ((S a.h.nm).size : Int) := by omega
      have i2 : ¬ (300 : Int) < ((S b.h.nm).size : Int) := by omega
      have j1 : decide ((300 : Int) < ((S a.h.nm).size : Int)) = false := decide_eq_false i1
      have j2 : decide ((300 : Int) < ((S b.h.nm).size : Int)) = false := decide_eq_false i2
      have HW := Lib.hid (WriteC_c a hw (by omega))
      have HV := Lib.hid (WriteC_c b hw2 (by omega))
      clear hw hw2 ht hsS hsT hb HK i1 i2 hm hm2
      generalize chkH a.h = K at *
      generalize chkH b.h = L at *
      obtain ⟨⟨mm, ⟨y, mo, dd, hh, mi, s⟩, sum, p, z, nm⟩, k, o⟩ := a
      obtain ⟨⟨mm', ⟨y', mo', dd', hh', mi', s'⟩, sum', p', z', nm'⟩, k', o'⟩ := b
      unfold rcV rcC at *
      dsimp only at *
      go_enter Tryd.func6, Tryd.ntmps6
      go_wp2_with fail
      refine (HAL.out _ ((HT.out.alloc _).alloc _)).mono ?_
      rintro e W1 ⟨rfl, hb1⟩
      have K1 := Lib.hid (HK2.out.below HK2.out.lt hb1)
      have J1 := Lib.hid (HJ.out.below HJ.out.lt hb1)
      have B1 := Lib.hid (HBL.out.trans (hb1.mono HBL.out.size))
      clear hb1 HK2 HJ HBL HAL
      have c10 := (K1.out.cell 10).trans rfl
      have d10 := (J1.out.cell 10).trans rfl
      have q1 := ld_rc K1.out rfl
      go_wp2_with (with_reducible refine wpList_load_var _ _ (by with_unfolding_all rfl) q1 ?_)
      refine (HW.out _ (HT.out.below B1.out)).mono ?_
      rintro e W2 ⟨A2, N2, d2, rfl, _, hb2⟩
      have J2 := Lib.hid (J1.out.below J1.out.lt hb2)
      have B2 := Lib.hid (B1.out.trans (hb2.mono B1.out.size))
      clear hb2 K1 J1 B1 c10 d10 q1
      have q2 := ld_rc J2.out rfl
      go_wp2_with (with_reducible refine wpList_load_var _ _ (by with_unfolding_all rfl) q2 ?_)
      refine (HV.out _ (HT.out.below B2.out)).mono ?_
      rintro e W3 ⟨A3, N3, d3, rfl, _, hb3⟩
      go_wp2
      go_ret
      exact ⟨rfl, B2.out.trans (hb3.mono B2.out.size)⟩
  · obtain ⟨z0, z1, hy0, hy1, hzz⟩ : ∃ z0 z1 : Bool, decide ((300 : Int) < ((S a.h.nm).size : Int)) = z0 ∧ decide ((300 : Int) < ((S b.h.nm).size : Int)) = z1 ∧ (z0 || z1) = true := ⟨_, _, rfl, rfl, by
      rw [Bool.or_eq_true, decide_eq_true_iff, decide_eq_true_iff]
      omega⟩
    clear hw hw2 ht hsS hsT hb HK
    obtain ⟨⟨mm, ⟨y, mo, dd, hh, mi, s⟩, sum, p, z, nm⟩, k, o⟩ := a
    obtain ⟨⟨mm', ⟨y', mo', dd', hh', mi', s'⟩, sum', p', z', nm'⟩, k', o'⟩ := b
    unfold rcV rcC at *
    dsimp only at *
    cases z0 <;> cases z1 <;> first | (exact absurd hzz (by decide)) | skip
    all_goals
      go_enter Tryd.func6, Tryd.ntmps6
      go_wp2_with fail
      refine (HAL.out _ ((HT.out.alloc _).alloc _)).mono ?_
      rintro e W1 ⟨rfl, hb1⟩
      have c10 := ((HK2.out.below HK2.out.lt hb1).cell 10).trans rfl
      have d10 := ((HJ.out.below HJ.out.lt hb1).cell 10).trans rfl
      go_wp2
      go_ret
      exact ⟨rfl, HBL.out.trans (hb1.mono HBL.out.size)⟩
end Go.Proofs.YtacllgglpjdobaaDoor
