/-
  LAW 04's WALK: SystematicWords, neg, many, sum. No conditions. (Written by gen04d.py.)
-/
import Derived.Test.YtciljflnhleocaaLaw04b
namespace Go.Proofs.Ytciljflnhleocaa
open Go.RowKit
set_option maxRecDepth 100000
set_option linter.unusedVariables false
section
variable {w : World} {A B : Option Addr} {len cap lb cb : Nat} {l : List F} {th : List Bool}
set_option maxHeartbeats 8000000 in
theorem words_neg (h : RowIn w A len cap l) (hb : BRow w B lb th) (n k i : Int) (hl : len ≤ 24) (hlb : lb ≤ 24) (h0 : 1 ≤ len) (hk0 : k < 0) :
    Calls Try.prog 5 #[.slice A len cap, .slice B lb cb, .int .i64 n, .int .i64 k, .int .i64 i] w fun e w' => e = .returned (.bool true) ∧ Below w.heap.size w w' := by
  obtain ⟨i0, hi, hz0, hz1, hz2⟩ := info_parts info_u8
  have hl1 : ¬ (24 : Int) < len := by omega
  have hlb1 : ¬ (24 : Int) < lb := by omega
  have e1 : ((len : Int) == 0) = false := by rw [beq_eq_false_iff_ne]; omega
  have hk1 : ¬ (24 : Int) < k := by omega
  go_enter Try.func5, Try.ntmps5
  go_wp2_with (first
    | (go_at_call 24; refine (alive04_c _).mono ?_; rintro e w1 ⟨rfl, hb1⟩; have h1 := h.below hb1; have hbb1 := hb.below hb1)
    | (go_at_call 25; refine (Encode_arg A len cap k _ (.inr hk0) (by omega)).mono ?_; rintro e w2 ⟨rfl, rfl⟩; have hF := h1; have hbF := hbb1; have hBF := hb1))
  clear h hb h1 hbb1 hb1
  generalize w1 = wF at *
  have hsF := hBF.size
  by_cases hm : 1 ≤ n ∧ n ≤ len ∧ len ≤ 255
  · obtain ⟨m, rfl⟩ := Int.eq_ofNat_of_zero_le (show 0 ≤ n by omega)
    have hm1 : 1 ≤ m := by omega
    have hm2 : m ≤ len := by omega
    have hm3 : len ≤ 255 := by omega
    have HM := Lib.hid (decide_eq_true hm)
    clear hm
    by_cases hi0 : i < 0
    · have hio : i < 0 ∨ 255 ≤ i := .inl hi0
      go_wp2_with (first
        | (go_at_call 28
           refine (Fill_any cb m hF hbF hl hlb).mono ?_
           rintro e w8 ⟨p8, t8, c8, er8, z8, rfl, hr8, hs8, hb8⟩
           have hF8 := hF.below hb8
           have hbF8 := hbF.below hb8
           have hB8 := hBF.trans (hb8.mono hsF)
           have hsz8 := hB8.size)
        | (go_at_call 29
           refine (RefFill_any cb m hF8 hbF8 hl hlb).mono ?_
           rintro e w9 ⟨p9, t9, c9, er9, z9, rfl, hr9, hs9, hb9⟩
           have her : ((er8 : Int) != er9) = false := by rw [(FSpec.unique hs8.out hs9.out).1]; simp
           have hF9 := hF8.below hb9
           have hB9 := hB8.trans (hb9.mono hsz8)
           have hr89 := hr8.below hb9)
        | (go_at_call 19; refine (Same_f hr89 hr9 hs8 hs9).mono ?_; rintro e w10 ⟨rfl, q7, rfl⟩)
        | (go_at_call 30; refine (May_c A len cap m _ true HM.out (by omega)).mono ?_; rintro e w' ⟨rfl, rfl⟩)
        | (go_at_call 31; refine (At_no A len cap m i _ (.inr hio)).mono ?_; rintro e w' ⟨rfl, rfl⟩))
      go_ret
      exact ⟨rfl, below_drewN hB9 q7⟩

    · by_cases hi1 : 255 ≤ i
      · have hio : i < 0 ∨ 255 ≤ i := .inr hi1
        go_wp2_with (first
          | (go_at_call 28
             refine (Fill_any cb m hF hbF hl hlb).mono ?_
             rintro e w8 ⟨p8, t8, c8, er8, z8, rfl, hr8, hs8, hb8⟩
             have hF8 := hF.below hb8
             have hbF8 := hbF.below hb8
             have hB8 := hBF.trans (hb8.mono hsF)
             have hsz8 := hB8.size)
          | (go_at_call 29
             refine (RefFill_any cb m hF8 hbF8 hl hlb).mono ?_
             rintro e w9 ⟨p9, t9, c9, er9, z9, rfl, hr9, hs9, hb9⟩
             have her : ((er8 : Int) != er9) = false := by rw [(FSpec.unique hs8.out hs9.out).1]; simp
             have hF9 := hF8.below hb9
             have hB9 := hB8.trans (hb9.mono hsz8)
             have hr89 := hr8.below hb9)
          | (go_at_call 19; refine (Same_f hr89 hr9 hs8 hs9).mono ?_; rintro e w10 ⟨rfl, q7, rfl⟩)
          | (go_at_call 30; refine (May_c A len cap m _ true HM.out (by omega)).mono ?_; rintro e w' ⟨rfl, rfl⟩)
          | (go_at_call 31; refine (At_no A len cap m i _ (.inr hio)).mono ?_; rintro e w' ⟨rfl, rfl⟩))
        go_ret
        exact ⟨rfl, below_drewN hB9 q7⟩

      · obtain ⟨j, rfl⟩ := Int.eq_ofNat_of_zero_le (show 0 ≤ i by omega)
        have hj : j < 255 := by omega
        have hj2 : ¬ (255 : Int) ≤ j := by omega
        clear hi1
        obtain ⟨kk2, hkk2⟩ : ∃ k : Nat, k = j + 1 - m := ⟨_, rfl⟩
        have hw1 : IntKind.i64.wrap ((j : Int) - (m : Int)) = (j : Int) - (m : Int) := IntWalk.i64_in _ (by omega)
        have hw2 : IntKind.i64.wrap ((j : Int) - (m : Int) + 1) = (j : Int) - (m : Int) + 1 := IntWalk.i64_in _ (by omega)
        have hw3 : max ((j : Int) - (m : Int) + 1) 0 = (kk2 : Int) := by omega
        have hkb : kk2 ≤ 255 := by omega
        obtain ⟨N2, hN2c⟩ : ∃ N, m + kk2 = N := ⟨_, rfl⟩
        have hN2 : N2 ≤ 65536 := by omega
        have hjN : (j : Int) < N2 := by omega
        have HN2 := Lib.hid hN2c
        obtain ⟨kk4, hkk4⟩ : ∃ k : Nat, k = len - m := ⟨_, rfl⟩
        have hw4 : IntKind.i64.wrap ((len : Int) - (m : Int)) = (kk4 : Int) := (IntWalk.i64_in _ (by omega)).trans (by omega)
        have HN4 : Hid (m + kk4 = len) := by unfold Hid; omega
        clear hkk2 hN2c hkk4
        have hcap := hF.le
        have hmc : (m : Int) ≤ cap := by omega
        have hm00 : (0 : Int) ≤ m := by omega
        go_wp2_with (first
          | (go_at_call 28
             refine (Fill_any cb m hF hbF hl hlb).mono ?_
             rintro e w8 ⟨p8, t8, c8, er8, z8, rfl, hr8, hs8, hb8⟩
             have hF8 := hF.below hb8
             have hbF8 := hbF.below hb8
             have hB8 := hBF.trans (hb8.mono hsF)
             have hsz8 := hB8.size)
          | (go_at_call 29
             refine (RefFill_any cb m hF8 hbF8 hl hlb).mono ?_
             rintro e w9 ⟨p9, t9, c9, er9, z9, rfl, hr9, hs9, hb9⟩
             have her : ((er8 : Int) != er9) = false := by rw [(FSpec.unique hs8.out hs9.out).1]; simp
             have hF9 := hF8.below hb9
             have hB9 := hB8.trans (hb9.mono hsz8)
             have hr89 := hr8.below hb9)
          | (go_at_call 19; refine (Same_f hr89 hr9 hs8 hs9).mono ?_; rintro e w10 ⟨rfl, q7, rfl⟩)
          | (go_at_call 30; refine (May_c A len cap m _ true HM.out (by omega)).mono ?_; rintro e w' ⟨rfl, rfl⟩)
          | (go_at_call 31
             have hF10 := hF9.drewN q7
             have hB10 := below_drewN hB9 q7
             refine (At_ok A len cap m j l _ hF10 hm1 hm2 hm3 hj).mono ?_
             rintro e w11 ⟨T1, rfl, ht1, hb11⟩
             have HT1 := Lib.hid ht1
             have hF11 := hF10.below hb11
             have hB11 := hB10.trans (hb11.mono hB10.size)
             have hft := hF11.row.take hm2
             clear ht1)
          | (go_at_call 27
             refine (Of_n A m cap kk2 N2 HN2.out (l.take m) _ hft (by omega) hN2).mono ?_
             rintro e w12 ⟨g12, c12, T2, rfl, hown12, ht2, hb12⟩
             have hF12 := hF11.below hb12
             have hB12 := hB11.trans (hb12.mono hB11.size)
             have hr12 := Row.of_own hown12
             clear hown12
             have hT21 := Lib.hid (Tells.unique (by omega) ht2 HT1.out)
             clear ht2))
        have hr12d := hr12.drewN 1
        obtain ⟨b13, o13, hA13, lt13, hc13'⟩ := hr12d.at_ (show j < N2 by omega)
        injection hA13 with hA13
        injection hA13 with e13 e14
        subst e13 e14
        rw [hT21.out, gt_vals, if_pos (show j < N2 by omega), Nat.zero_add] at hc13'
        have hc13 : w12.drew.cell? ⟨g12, j, none⟩ = some (.int .u8 (ev T1 (plI j)).n) := hc13'
        replace lt13 : g12 < w12.drew.heap.size := lt13
        clear hc13'
        have hF13 : RowIn w12.drew A len cap l := hF12.drewN 1
        have hB13 : Below w.heap.size w w12.drew := below_drewN hB12 1
        have hcc : (((ev T1 (plI j)).n : Int) == ((ev T1 (plI j)).n : Int)) = true := by simp
        clear hr12d hr12 hF12 hB12 hT21 hft
        clear hF hbF hF8 hbF8 hr8 hs8 hs9 hr9 hr89 hF9 hF10 hB9 hB10 hF11 hB11 hB8

        go_region_held3 (fun w' => w'.cell? ⟨g12, j, none⟩ = some (.int .u8 (ev T1 (plI j)).n))
          (first | go_keep | exact hc14 | exact hc15 | assumption)
          (first
            | (go_at_call 32
               refine (Is_b m hF13 hm1 hm2 hm3 HT1).mono ?_
               rintro e w14 ⟨bI, rfl, hbI, hb14⟩
               have hc14 := (hb14.cell (p := ⟨g12, j, none⟩) lt13).trans hc13
               have lt14 : g12 < w14.heap.size := Nat.lt_of_lt_of_le lt13 hb14.size
               have hF14 := hF13.below hb14
               have hB14 := hB13.trans (hb14.mono hB13.size)
               have hft14 := hF14.row.take hm2)
            | (go_at_call 27
               refine (Of_n A m cap kk4 len HN4.out (l.take m) _ hft14 (by omega) (by omega)).mono ?_
               rintro e w15 ⟨g15, c15, T5, rfl, hown15, ht5, hb15⟩
               have hc15 := (hb15.cell (p := ⟨g12, j, none⟩) lt14).trans hc14
               have hF15 := hF14.below hb15
               have hB15 := hB14.trans (hb15.mono hB14.size)
               have hr15 := Row.of_own hown15
               have hbI5 : Hid (decide (vals T5 0 len = l) = bI) := by
                 rw [Tells.unique (by omega) ht5 HT1.out]; exact hbI
               clear hown15 ht5)
            | (go_at_call 19; refine (Same_b hr15 hF15.row hbI5).mono ?_; rintro e w16 ⟨rfl, q9, rfl⟩; have hbb : (bI == bI) = true := by simp))
        go_wp2
        go_ret
        exact ⟨rfl, below_drewN hB15 q9⟩
  · have HM := Lib.hid (decide_eq_false hm)
    go_wp2_with (first
      | (go_at_call 28
         refine (Fill_any cb n hF hbF hl hlb).mono ?_
         rintro e w8 ⟨p8, t8, c8, er8, z8, rfl, hr8, hs8, hb8⟩
         have hF8 := hF.below hb8
         have hbF8 := hbF.below hb8
         have hB8 := hBF.trans (hb8.mono hsF)
         have hsz8 := hB8.size)
      | (go_at_call 29
         refine (RefFill_any cb n hF8 hbF8 hl hlb).mono ?_
         rintro e w9 ⟨p9, t9, c9, er9, z9, rfl, hr9, hs9, hb9⟩
         have her : ((er8 : Int) != er9) = false := by rw [(FSpec.unique hs8.out hs9.out).1]; simp
         have hF9 := hF8.below hb9
         have hB9 := hB8.trans (hb9.mono hsz8)
         have hr89 := hr8.below hb9)
      | (go_at_call 19; refine (Same_f hr89 hr9 hs8 hs9).mono ?_; rintro e w10 ⟨rfl, q7, rfl⟩)
      | (go_at_call 30; refine (May_c A len cap n _ false HM.out (by omega)).mono ?_; rintro e w' ⟨rfl, rfl⟩)
      | (go_at_call 31; refine (At_no A len cap n i _ (.inl hm)).mono ?_; rintro e w' ⟨rfl, rfl⟩)
      | (go_at_call 32; refine (Is_no A len cap n _ hm).mono ?_; rintro e w' ⟨rfl, rfl⟩))
    go_ret
    exact ⟨rfl, below_drewN hB9 q7⟩
set_option maxHeartbeats 8000000 in
theorem words_many (h : RowIn w A len cap l) (hb : BRow w B lb th) (n k i : Int) (hl : len ≤ 24) (hlb : lb ≤ 24) (h0 : 1 ≤ len) (hk3 : 255 < k) :
    Calls Try.prog 5 #[.slice A len cap, .slice B lb cb, .int .i64 n, .int .i64 k, .int .i64 i] w fun e w' => e = .returned (.bool true) ∧ Below w.heap.size w w' := by
  obtain ⟨i0, hi, hz0, hz1, hz2⟩ := info_parts info_u8
  have hl1 : ¬ (24 : Int) < len := by omega
  have hlb1 : ¬ (24 : Int) < lb := by omega
  have e1 : ((len : Int) == 0) = false := by rw [beq_eq_false_iff_ne]; omega
  have hk1 : (24 : Int) < k := by omega
  have hk2 : ¬ k < 231 := by omega
  have hk255 : 255 < (len : Int) + k := by omega
  go_enter Try.func5, Try.ntmps5
  go_wp2_with (first
    | (go_at_call 24; refine (alive04_c _).mono ?_; rintro e w1 ⟨rfl, hb1⟩; have h1 := h.below hb1; have hbb1 := hb.below hb1)
    | (go_at_call 25; refine (Encode_many A len cap k _ (by omega) (by omega) (by omega) (by omega)).mono ?_; rintro e w2 ⟨rfl, rfl⟩; have hF := h1; have hbF := hbb1; have hBF := hb1))
  clear h hb h1 hbb1 hb1
  generalize w1 = wF at *
  have hsF := hBF.size
  by_cases hm : 1 ≤ n ∧ n ≤ len ∧ len ≤ 255
  · obtain ⟨m, rfl⟩ := Int.eq_ofNat_of_zero_le (show 0 ≤ n by omega)
    have hm1 : 1 ≤ m := by omega
    have hm2 : m ≤ len := by omega
    have hm3 : len ≤ 255 := by omega
    have HM := Lib.hid (decide_eq_true hm)
    clear hm
    by_cases hi0 : i < 0
    · have hio : i < 0 ∨ 255 ≤ i := .inl hi0
      go_wp2_with (first
        | (go_at_call 28
           refine (Fill_any cb m hF hbF hl hlb).mono ?_
           rintro e w8 ⟨p8, t8, c8, er8, z8, rfl, hr8, hs8, hb8⟩
           have hF8 := hF.below hb8
           have hbF8 := hbF.below hb8
           have hB8 := hBF.trans (hb8.mono hsF)
           have hsz8 := hB8.size)
        | (go_at_call 29
           refine (RefFill_any cb m hF8 hbF8 hl hlb).mono ?_
           rintro e w9 ⟨p9, t9, c9, er9, z9, rfl, hr9, hs9, hb9⟩
           have her : ((er8 : Int) != er9) = false := by rw [(FSpec.unique hs8.out hs9.out).1]; simp
           have hF9 := hF8.below hb9
           have hB9 := hB8.trans (hb9.mono hsz8)
           have hr89 := hr8.below hb9)
        | (go_at_call 19; refine (Same_f hr89 hr9 hs8 hs9).mono ?_; rintro e w10 ⟨rfl, q7, rfl⟩)
        | (go_at_call 30; refine (May_c A len cap m _ true HM.out (by omega)).mono ?_; rintro e w' ⟨rfl, rfl⟩)
        | (go_at_call 31; refine (At_no A len cap m i _ (.inr hio)).mono ?_; rintro e w' ⟨rfl, rfl⟩))
      go_ret
      exact ⟨rfl, below_drewN hB9 q7⟩

    · by_cases hi1 : 255 ≤ i
      · have hio : i < 0 ∨ 255 ≤ i := .inr hi1
        go_wp2_with (first
          | (go_at_call 28
             refine (Fill_any cb m hF hbF hl hlb).mono ?_
             rintro e w8 ⟨p8, t8, c8, er8, z8, rfl, hr8, hs8, hb8⟩
             have hF8 := hF.below hb8
             have hbF8 := hbF.below hb8
             have hB8 := hBF.trans (hb8.mono hsF)
             have hsz8 := hB8.size)
          | (go_at_call 29
             refine (RefFill_any cb m hF8 hbF8 hl hlb).mono ?_
             rintro e w9 ⟨p9, t9, c9, er9, z9, rfl, hr9, hs9, hb9⟩
             have her : ((er8 : Int) != er9) = false := by rw [(FSpec.unique hs8.out hs9.out).1]; simp
             have hF9 := hF8.below hb9
             have hB9 := hB8.trans (hb9.mono hsz8)
             have hr89 := hr8.below hb9)
          | (go_at_call 19; refine (Same_f hr89 hr9 hs8 hs9).mono ?_; rintro e w10 ⟨rfl, q7, rfl⟩)
          | (go_at_call 30; refine (May_c A len cap m _ true HM.out (by omega)).mono ?_; rintro e w' ⟨rfl, rfl⟩)
          | (go_at_call 31; refine (At_no A len cap m i _ (.inr hio)).mono ?_; rintro e w' ⟨rfl, rfl⟩))
        go_ret
        exact ⟨rfl, below_drewN hB9 q7⟩

      · obtain ⟨j, rfl⟩ := Int.eq_ofNat_of_zero_le (show 0 ≤ i by omega)
        have hj : j < 255 := by omega
        have hj2 : ¬ (255 : Int) ≤ j := by omega
        clear hi1
        obtain ⟨kk2, hkk2⟩ : ∃ k : Nat, k = j + 1 - m := ⟨_, rfl⟩
        have hw1 : IntKind.i64.wrap ((j : Int) - (m : Int)) = (j : Int) - (m : Int) := IntWalk.i64_in _ (by omega)
        have hw2 : IntKind.i64.wrap ((j : Int) - (m : Int) + 1) = (j : Int) - (m : Int) + 1 := IntWalk.i64_in _ (by omega)
        have hw3 : max ((j : Int) - (m : Int) + 1) 0 = (kk2 : Int) := by omega
        have hkb : kk2 ≤ 255 := by omega
        obtain ⟨N2, hN2c⟩ : ∃ N, m + kk2 = N := ⟨_, rfl⟩
        have hN2 : N2 ≤ 65536 := by omega
        have hjN : (j : Int) < N2 := by omega
        have HN2 := Lib.hid hN2c
        obtain ⟨kk4, hkk4⟩ : ∃ k : Nat, k = len - m := ⟨_, rfl⟩
        have hw4 : IntKind.i64.wrap ((len : Int) - (m : Int)) = (kk4 : Int) := (IntWalk.i64_in _ (by omega)).trans (by omega)
        have HN4 : Hid (m + kk4 = len) := by unfold Hid; omega
        clear hkk2 hN2c hkk4
        have hcap := hF.le
        have hmc : (m : Int) ≤ cap := by omega
        have hm00 : (0 : Int) ≤ m := by omega
        go_wp2_with (first
          | (go_at_call 28
             refine (Fill_any cb m hF hbF hl hlb).mono ?_
             rintro e w8 ⟨p8, t8, c8, er8, z8, rfl, hr8, hs8, hb8⟩
             have hF8 := hF.below hb8
             have hbF8 := hbF.below hb8
             have hB8 := hBF.trans (hb8.mono hsF)
             have hsz8 := hB8.size)
          | (go_at_call 29
             refine (RefFill_any cb m hF8 hbF8 hl hlb).mono ?_
             rintro e w9 ⟨p9, t9, c9, er9, z9, rfl, hr9, hs9, hb9⟩
             have her : ((er8 : Int) != er9) = false := by rw [(FSpec.unique hs8.out hs9.out).1]; simp
             have hF9 := hF8.below hb9
             have hB9 := hB8.trans (hb9.mono hsz8)
             have hr89 := hr8.below hb9)
          | (go_at_call 19; refine (Same_f hr89 hr9 hs8 hs9).mono ?_; rintro e w10 ⟨rfl, q7, rfl⟩)
          | (go_at_call 30; refine (May_c A len cap m _ true HM.out (by omega)).mono ?_; rintro e w' ⟨rfl, rfl⟩)
          | (go_at_call 31
             have hF10 := hF9.drewN q7
             have hB10 := below_drewN hB9 q7
             refine (At_ok A len cap m j l _ hF10 hm1 hm2 hm3 hj).mono ?_
             rintro e w11 ⟨T1, rfl, ht1, hb11⟩
             have HT1 := Lib.hid ht1
             have hF11 := hF10.below hb11
             have hB11 := hB10.trans (hb11.mono hB10.size)
             have hft := hF11.row.take hm2
             clear ht1)
          | (go_at_call 27
             refine (Of_n A m cap kk2 N2 HN2.out (l.take m) _ hft (by omega) hN2).mono ?_
             rintro e w12 ⟨g12, c12, T2, rfl, hown12, ht2, hb12⟩
             have hF12 := hF11.below hb12
             have hB12 := hB11.trans (hb12.mono hB11.size)
             have hr12 := Row.of_own hown12
             clear hown12
             have hT21 := Lib.hid (Tells.unique (by omega) ht2 HT1.out)
             clear ht2))
        have hr12d := hr12.drewN 1
        obtain ⟨b13, o13, hA13, lt13, hc13'⟩ := hr12d.at_ (show j < N2 by omega)
        injection hA13 with hA13
        injection hA13 with e13 e14
        subst e13 e14
        rw [hT21.out, gt_vals, if_pos (show j < N2 by omega), Nat.zero_add] at hc13'
        have hc13 : w12.drew.cell? ⟨g12, j, none⟩ = some (.int .u8 (ev T1 (plI j)).n) := hc13'
        replace lt13 : g12 < w12.drew.heap.size := lt13
        clear hc13'
        have hF13 : RowIn w12.drew A len cap l := hF12.drewN 1
        have hB13 : Below w.heap.size w w12.drew := below_drewN hB12 1
        have hcc : (((ev T1 (plI j)).n : Int) == ((ev T1 (plI j)).n : Int)) = true := by simp
        clear hr12d hr12 hF12 hB12 hT21 hft
        clear hF hbF hF8 hbF8 hr8 hs8 hs9 hr9 hr89 hF9 hF10 hB9 hB10 hF11 hB11 hB8

        go_region_held3 (fun w' => w'.cell? ⟨g12, j, none⟩ = some (.int .u8 (ev T1 (plI j)).n))
          (first | go_keep | exact hc14 | exact hc15 | assumption)
          (first
            | (go_at_call 32
               refine (Is_b m hF13 hm1 hm2 hm3 HT1).mono ?_
               rintro e w14 ⟨bI, rfl, hbI, hb14⟩
               have hc14 := (hb14.cell (p := ⟨g12, j, none⟩) lt13).trans hc13
               have lt14 : g12 < w14.heap.size := Nat.lt_of_lt_of_le lt13 hb14.size
               have hF14 := hF13.below hb14
               have hB14 := hB13.trans (hb14.mono hB13.size)
               have hft14 := hF14.row.take hm2)
            | (go_at_call 27
               refine (Of_n A m cap kk4 len HN4.out (l.take m) _ hft14 (by omega) (by omega)).mono ?_
               rintro e w15 ⟨g15, c15, T5, rfl, hown15, ht5, hb15⟩
               have hc15 := (hb15.cell (p := ⟨g12, j, none⟩) lt14).trans hc14
               have hF15 := hF14.below hb15
               have hB15 := hB14.trans (hb15.mono hB14.size)
               have hr15 := Row.of_own hown15
               have hbI5 : Hid (decide (vals T5 0 len = l) = bI) := by
                 rw [Tells.unique (by omega) ht5 HT1.out]; exact hbI
               clear hown15 ht5)
            | (go_at_call 19; refine (Same_b hr15 hF15.row hbI5).mono ?_; rintro e w16 ⟨rfl, q9, rfl⟩; have hbb : (bI == bI) = true := by simp))
        go_wp2
        go_ret
        exact ⟨rfl, below_drewN hB15 q9⟩
  · have HM := Lib.hid (decide_eq_false hm)
    go_wp2_with (first
      | (go_at_call 28
         refine (Fill_any cb n hF hbF hl hlb).mono ?_
         rintro e w8 ⟨p8, t8, c8, er8, z8, rfl, hr8, hs8, hb8⟩
         have hF8 := hF.below hb8
         have hbF8 := hbF.below hb8
         have hB8 := hBF.trans (hb8.mono hsF)
         have hsz8 := hB8.size)
      | (go_at_call 29
         refine (RefFill_any cb n hF8 hbF8 hl hlb).mono ?_
         rintro e w9 ⟨p9, t9, c9, er9, z9, rfl, hr9, hs9, hb9⟩
         have her : ((er8 : Int) != er9) = false := by rw [(FSpec.unique hs8.out hs9.out).1]; simp
         have hF9 := hF8.below hb9
         have hB9 := hB8.trans (hb9.mono hsz8)
         have hr89 := hr8.below hb9)
      | (go_at_call 19; refine (Same_f hr89 hr9 hs8 hs9).mono ?_; rintro e w10 ⟨rfl, q7, rfl⟩)
      | (go_at_call 30; refine (May_c A len cap n _ false HM.out (by omega)).mono ?_; rintro e w' ⟨rfl, rfl⟩)
      | (go_at_call 31; refine (At_no A len cap n i _ (.inl hm)).mono ?_; rintro e w' ⟨rfl, rfl⟩)
      | (go_at_call 32; refine (Is_no A len cap n _ hm).mono ?_; rintro e w' ⟨rfl, rfl⟩))
    go_ret
    exact ⟨rfl, below_drewN hB9 q7⟩
set_option maxHeartbeats 8000000 in
theorem words_sum (h : RowIn w A len cap l) (hb : BRow w B lb th) (n k i : Int) (hl : len ≤ 24) (hlb : lb ≤ 24) (h0 : 1 ≤ len) (hk231 : 231 ≤ k) (hk3 : ¬ 255 < k) (hk255 : 255 < (len : Int) + k) :
    Calls Try.prog 5 #[.slice A len cap, .slice B lb cb, .int .i64 n, .int .i64 k, .int .i64 i] w fun e w' => e = .returned (.bool true) ∧ Below w.heap.size w w' := by
  obtain ⟨i0, hi, hz0, hz1, hz2⟩ := info_parts info_u8
  have hl1 : ¬ (24 : Int) < len := by omega
  have hlb1 : ¬ (24 : Int) < lb := by omega
  have e1 : ((len : Int) == 0) = false := by rw [beq_eq_false_iff_ne]; omega
  have hk1 : (24 : Int) < k := by omega
  have hk2 : ¬ k < 231 := by omega
  go_enter Try.func5, Try.ntmps5
  go_wp2_with (first
    | (go_at_call 24; refine (alive04_c _).mono ?_; rintro e w1 ⟨rfl, hb1⟩; have h1 := h.below hb1; have hbb1 := hb.below hb1)
    | (go_at_call 25; refine (Encode_many A len cap k _ (by omega) (by omega) (by omega) hk255).mono ?_; rintro e w2 ⟨rfl, rfl⟩; have hF := h1; have hbF := hbb1; have hBF := hb1))
  clear h hb h1 hbb1 hb1
  generalize w1 = wF at *
  have hsF := hBF.size
  by_cases hm : 1 ≤ n ∧ n ≤ len ∧ len ≤ 255
  · obtain ⟨m, rfl⟩ := Int.eq_ofNat_of_zero_le (show 0 ≤ n by omega)
    have hm1 : 1 ≤ m := by omega
    have hm2 : m ≤ len := by omega
    have hm3 : len ≤ 255 := by omega
    have HM := Lib.hid (decide_eq_true hm)
    clear hm
    by_cases hi0 : i < 0
    · have hio : i < 0 ∨ 255 ≤ i := .inl hi0
      go_wp2_with (first
        | (go_at_call 28
           refine (Fill_any cb m hF hbF hl hlb).mono ?_
           rintro e w8 ⟨p8, t8, c8, er8, z8, rfl, hr8, hs8, hb8⟩
           have hF8 := hF.below hb8
           have hbF8 := hbF.below hb8
           have hB8 := hBF.trans (hb8.mono hsF)
           have hsz8 := hB8.size)
        | (go_at_call 29
           refine (RefFill_any cb m hF8 hbF8 hl hlb).mono ?_
           rintro e w9 ⟨p9, t9, c9, er9, z9, rfl, hr9, hs9, hb9⟩
           have her : ((er8 : Int) != er9) = false := by rw [(FSpec.unique hs8.out hs9.out).1]; simp
           have hF9 := hF8.below hb9
           have hB9 := hB8.trans (hb9.mono hsz8)
           have hr89 := hr8.below hb9)
        | (go_at_call 19; refine (Same_f hr89 hr9 hs8 hs9).mono ?_; rintro e w10 ⟨rfl, q7, rfl⟩)
        | (go_at_call 30; refine (May_c A len cap m _ true HM.out (by omega)).mono ?_; rintro e w' ⟨rfl, rfl⟩)
        | (go_at_call 31; refine (At_no A len cap m i _ (.inr hio)).mono ?_; rintro e w' ⟨rfl, rfl⟩))
      go_ret
      exact ⟨rfl, below_drewN hB9 q7⟩

    · by_cases hi1 : 255 ≤ i
      · have hio : i < 0 ∨ 255 ≤ i := .inr hi1
        go_wp2_with (first
          | (go_at_call 28
             refine (Fill_any cb m hF hbF hl hlb).mono ?_
             rintro e w8 ⟨p8, t8, c8, er8, z8, rfl, hr8, hs8, hb8⟩
             have hF8 := hF.below hb8
             have hbF8 := hbF.below hb8
             have hB8 := hBF.trans (hb8.mono hsF)
             have hsz8 := hB8.size)
          | (go_at_call 29
             refine (RefFill_any cb m hF8 hbF8 hl hlb).mono ?_
             rintro e w9 ⟨p9, t9, c9, er9, z9, rfl, hr9, hs9, hb9⟩
             have her : ((er8 : Int) != er9) = false := by rw [(FSpec.unique hs8.out hs9.out).1]; simp
             have hF9 := hF8.below hb9
             have hB9 := hB8.trans (hb9.mono hsz8)
             have hr89 := hr8.below hb9)
          | (go_at_call 19; refine (Same_f hr89 hr9 hs8 hs9).mono ?_; rintro e w10 ⟨rfl, q7, rfl⟩)
          | (go_at_call 30; refine (May_c A len cap m _ true HM.out (by omega)).mono ?_; rintro e w' ⟨rfl, rfl⟩)
          | (go_at_call 31; refine (At_no A len cap m i _ (.inr hio)).mono ?_; rintro e w' ⟨rfl, rfl⟩))
        go_ret
        exact ⟨rfl, below_drewN hB9 q7⟩

      · obtain ⟨j, rfl⟩ := Int.eq_ofNat_of_zero_le (show 0 ≤ i by omega)
        have hj : j < 255 := by omega
        have hj2 : ¬ (255 : Int) ≤ j := by omega
        clear hi1
        obtain ⟨kk2, hkk2⟩ : ∃ k : Nat, k = j + 1 - m := ⟨_, rfl⟩
        have hw1 : IntKind.i64.wrap ((j : Int) - (m : Int)) = (j : Int) - (m : Int) := IntWalk.i64_in _ (by omega)
        have hw2 : IntKind.i64.wrap ((j : Int) - (m : Int) + 1) = (j : Int) - (m : Int) + 1 := IntWalk.i64_in _ (by omega)
        have hw3 : max ((j : Int) - (m : Int) + 1) 0 = (kk2 : Int) := by omega
        have hkb : kk2 ≤ 255 := by omega
        obtain ⟨N2, hN2c⟩ : ∃ N, m + kk2 = N := ⟨_, rfl⟩
        have hN2 : N2 ≤ 65536 := by omega
        have hjN : (j : Int) < N2 := by omega
        have HN2 := Lib.hid hN2c
        obtain ⟨kk4, hkk4⟩ : ∃ k : Nat, k = len - m := ⟨_, rfl⟩
        have hw4 : IntKind.i64.wrap ((len : Int) - (m : Int)) = (kk4 : Int) := (IntWalk.i64_in _ (by omega)).trans (by omega)
        have HN4 : Hid (m + kk4 = len) := by unfold Hid; omega
        clear hkk2 hN2c hkk4
        have hcap := hF.le
        have hmc : (m : Int) ≤ cap := by omega
        have hm00 : (0 : Int) ≤ m := by omega
        go_wp2_with (first
          | (go_at_call 28
             refine (Fill_any cb m hF hbF hl hlb).mono ?_
             rintro e w8 ⟨p8, t8, c8, er8, z8, rfl, hr8, hs8, hb8⟩
             have hF8 := hF.below hb8
             have hbF8 := hbF.below hb8
             have hB8 := hBF.trans (hb8.mono hsF)
             have hsz8 := hB8.size)
          | (go_at_call 29
             refine (RefFill_any cb m hF8 hbF8 hl hlb).mono ?_
             rintro e w9 ⟨p9, t9, c9, er9, z9, rfl, hr9, hs9, hb9⟩
             have her : ((er8 : Int) != er9) = false := by rw [(FSpec.unique hs8.out hs9.out).1]; simp
             have hF9 := hF8.below hb9
             have hB9 := hB8.trans (hb9.mono hsz8)
             have hr89 := hr8.below hb9)
          | (go_at_call 19; refine (Same_f hr89 hr9 hs8 hs9).mono ?_; rintro e w10 ⟨rfl, q7, rfl⟩)
          | (go_at_call 30; refine (May_c A len cap m _ true HM.out (by omega)).mono ?_; rintro e w' ⟨rfl, rfl⟩)
          | (go_at_call 31
             have hF10 := hF9.drewN q7
             have hB10 := below_drewN hB9 q7
             refine (At_ok A len cap m j l _ hF10 hm1 hm2 hm3 hj).mono ?_
             rintro e w11 ⟨T1, rfl, ht1, hb11⟩
             have HT1 := Lib.hid ht1
             have hF11 := hF10.below hb11
             have hB11 := hB10.trans (hb11.mono hB10.size)
             have hft := hF11.row.take hm2
             clear ht1)
          | (go_at_call 27
             refine (Of_n A m cap kk2 N2 HN2.out (l.take m) _ hft (by omega) hN2).mono ?_
             rintro e w12 ⟨g12, c12, T2, rfl, hown12, ht2, hb12⟩
             have hF12 := hF11.below hb12
             have hB12 := hB11.trans (hb12.mono hB11.size)
             have hr12 := Row.of_own hown12
             clear hown12
             have hT21 := Lib.hid (Tells.unique (by omega) ht2 HT1.out)
             clear ht2))
        have hr12d := hr12.drewN 1
        obtain ⟨b13, o13, hA13, lt13, hc13'⟩ := hr12d.at_ (show j < N2 by omega)
        injection hA13 with hA13
        injection hA13 with e13 e14
        subst e13 e14
        rw [hT21.out, gt_vals, if_pos (show j < N2 by omega), Nat.zero_add] at hc13'
        have hc13 : w12.drew.cell? ⟨g12, j, none⟩ = some (.int .u8 (ev T1 (plI j)).n) := hc13'
        replace lt13 : g12 < w12.drew.heap.size := lt13
        clear hc13'
        have hF13 : RowIn w12.drew A len cap l := hF12.drewN 1
        have hB13 : Below w.heap.size w w12.drew := below_drewN hB12 1
        have hcc : (((ev T1 (plI j)).n : Int) == ((ev T1 (plI j)).n : Int)) = true := by simp
        clear hr12d hr12 hF12 hB12 hT21 hft
        clear hF hbF hF8 hbF8 hr8 hs8 hs9 hr9 hr89 hF9 hF10 hB9 hB10 hF11 hB11 hB8

        go_region_held3 (fun w' => w'.cell? ⟨g12, j, none⟩ = some (.int .u8 (ev T1 (plI j)).n))
          (first | go_keep | exact hc14 | exact hc15 | assumption)
          (first
            | (go_at_call 32
               refine (Is_b m hF13 hm1 hm2 hm3 HT1).mono ?_
               rintro e w14 ⟨bI, rfl, hbI, hb14⟩
               have hc14 := (hb14.cell (p := ⟨g12, j, none⟩) lt13).trans hc13
               have lt14 : g12 < w14.heap.size := Nat.lt_of_lt_of_le lt13 hb14.size
               have hF14 := hF13.below hb14
               have hB14 := hB13.trans (hb14.mono hB13.size)
               have hft14 := hF14.row.take hm2)
            | (go_at_call 27
               refine (Of_n A m cap kk4 len HN4.out (l.take m) _ hft14 (by omega) (by omega)).mono ?_
               rintro e w15 ⟨g15, c15, T5, rfl, hown15, ht5, hb15⟩
               have hc15 := (hb15.cell (p := ⟨g12, j, none⟩) lt14).trans hc14
               have hF15 := hF14.below hb15
               have hB15 := hB14.trans (hb15.mono hB14.size)
               have hr15 := Row.of_own hown15
               have hbI5 : Hid (decide (vals T5 0 len = l) = bI) := by
                 rw [Tells.unique (by omega) ht5 HT1.out]; exact hbI
               clear hown15 ht5)
            | (go_at_call 19; refine (Same_b hr15 hF15.row hbI5).mono ?_; rintro e w16 ⟨rfl, q9, rfl⟩; have hbb : (bI == bI) = true := by simp))
        go_wp2
        go_ret
        exact ⟨rfl, below_drewN hB15 q9⟩
  · have HM := Lib.hid (decide_eq_false hm)
    go_wp2_with (first
      | (go_at_call 28
         refine (Fill_any cb n hF hbF hl hlb).mono ?_
         rintro e w8 ⟨p8, t8, c8, er8, z8, rfl, hr8, hs8, hb8⟩
         have hF8 := hF.below hb8
         have hbF8 := hbF.below hb8
         have hB8 := hBF.trans (hb8.mono hsF)
         have hsz8 := hB8.size)
      | (go_at_call 29
         refine (RefFill_any cb n hF8 hbF8 hl hlb).mono ?_
         rintro e w9 ⟨p9, t9, c9, er9, z9, rfl, hr9, hs9, hb9⟩
         have her : ((er8 : Int) != er9) = false := by rw [(FSpec.unique hs8.out hs9.out).1]; simp
         have hF9 := hF8.below hb9
         have hB9 := hB8.trans (hb9.mono hsz8)
         have hr89 := hr8.below hb9)
      | (go_at_call 19; refine (Same_f hr89 hr9 hs8 hs9).mono ?_; rintro e w10 ⟨rfl, q7, rfl⟩)
      | (go_at_call 30; refine (May_c A len cap n _ false HM.out (by omega)).mono ?_; rintro e w' ⟨rfl, rfl⟩)
      | (go_at_call 31; refine (At_no A len cap n i _ (.inl hm)).mono ?_; rintro e w' ⟨rfl, rfl⟩)
      | (go_at_call 32; refine (Is_no A len cap n _ hm).mono ?_; rintro e w' ⟨rfl, rfl⟩))
    go_ret
    exact ⟨rfl, below_drewN hB9 q7⟩
end
end Go.Proofs.Ytciljflnhleocaa
