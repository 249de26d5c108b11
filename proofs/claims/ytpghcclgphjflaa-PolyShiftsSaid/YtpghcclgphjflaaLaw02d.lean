/-
  LAW 02's WALK: PolyShifts: it returns true, and writes nothing that was there. No conditions.
-/
import Derived.Test.YtpghcclgphjflaaLaw02c
namespace Go.Proofs.Ytpghcclgphjflaa
open Go.RowKit
set_option linter.unusedVariables false

theorem gt_shift (p : List F) (r : Nat) : gt (pmul p [0, 1]) r = gt (0 :: p) r := by
  rw [pmul_comm]
  show gt (padd (pscale 0 p) (0 :: padd (pscale 1 p) (0 :: []))) r = _
  rw [gt_padd, gt_pscale, zero_mul, zero_add]
  cases r with
  | zero => rfl
  | succ r =>
    rw [gt_cons_succ, gt_cons_succ, gt_padd, gt_pscale, one_mul]
    cases r with
    | zero => exact add_zero _
    | succ r => rw [gt_cons_succ, gt_nil, add_zero]
theorem shift_some {p : List F} (h : tr p ≠ []) : tr (pmul p [0, 1]) = 0 :: tr p := by
  have e : tr (pmul p [0, 1]) = tr (0 :: tr p) := tr_ext fun i => by
    rw [gt_shift]
    cases i with
    | zero => rfl
    | succ i => rw [gt_cons_succ, gt_cons_succ, gt_tr]
  rw [e]
  refine tr_of_last (.inr ?_)
  have hl := List.length_pos_iff.2 h
  show gt (0 :: tr p) ((tr p).length + 1 - 1) ≠ 0
  rw [show (tr p).length + 1 - 1 = ((tr p).length - 1) + 1 by omega, gt_cons_succ, gt_tr]
  exact tr_last h
theorem shift_none {p : List F} (h : tr p = []) : tr (pmul p [0, 1]) = [] :=
  (tr_nil_iff _).2 (pmul_none p _ (.inl ((tr_nil_iff p).1 h)))
theorem ev_at_zero (p : List F) : ev p 0 = gt p 0 := by
  cases p with
  | nil => rfl
  | cons a p => show a + 0 * ev p 0 = a; rw [zero_mul, add_zero]
theorem ev_at_one (p : List F) (n : Nat) (h : p.length ≤ n) : ev p 1 = sm n (gt p) := by
  rw [ev_sm p n h]
  exact sm_congr fun i _ => by rw [one_pw, mul_one]

set_option maxHeartbeats 2000000 in
theorem shifts_small (A : Option Addr) (n ca : Nat) (p : List F) (w : World) (hp : RowIn w A n ca p) (hn : n ≤ 60) :
    Calls Try.prog 13 #[.slice A n ca] w fun e w' => e = .returned (.bool true) ∧ Below w.heap.size w w' := by
  obtain ⟨i0, hi, hz0, hz1, hz2⟩ := info_parts info_u8
  obtain ⟨a, hta⟩ : ∃ a, tl p n = a := ⟨_, rfl⟩
  have hla := tl_le p n
  have HA := Lib.hid hta
  rw [hta] at hla
  clear hta
  go_enter Try.func13, Try.ntmps13
  go_wp2_with (go_at_call 27; refine (alive02_c _).mono ?_; rintro e w1 ⟨rfl, hb1⟩)
  have hp1 := (hp.below hb1).below (bel1 w1 (.cells (cs [0, 1]).toArray 5))
  have hX1 : Row (w1.alloc (.cells (cs [0, 1]).toArray 5)) (some ⟨w1.heap.size, 0, none⟩) 2 [0, 1] := row_lit w1 [0, 1] 2 _ rfl rfl (by unfold maxLen; simp) _ rfl _
  have hB1 := hb1.alloc hb1.size (.cells (cs [0, 1]).toArray 5)
  refine (Mul_poly A _ n 2 ca 2 p [0, 1] _ hp1.row hX1 hp1.le (Nat.le_refl _) hp1.max (by unfold maxLen; omega) (by omega) (by omega)).mono ?_
  rintro e w2 ⟨M, mn, cm, rfl, hown2, hb2⟩
  have hM2 := Row.of_own hown2
  have hmn := Lib.hid (own_eq hown2)
  have hp2 := hp1.below hb2
  have hB2 := hB1.trans (hb2.mono hB1.size)
  clear hown2 hb2 hB1 hp hp1 hX1 hb1
  go_wp2_with fail
  have h3 := Trim_c A n ca p w2 hp2.row hp2.le hp2.max (by omega)
  rw [HA.out] at h3
  refine h3.mono ?_
  clear h3
  rintro e w3 ⟨T, tc, rfl, hown3, hb3⟩
  have hM3 := hM2.below hb3
  have hp3 := hp2.below hb3
  have hT3 := own_in hown3
  have hB3 := hB2.trans (hb3.mono hB2.size)
  clear hown3 hb3 hB2 hM2 hp2
  have hrow := hp3.row
  go_wp2
  go_loop [5, 6, 21] (fun f s i => ∃ k : Nat, k ≤ n ∧ i = .int .i64 k ∧ f = .int .u8 (if k = 0 then (0 : F) else gt p 0).n ∧ s = .int .u8 (sm k (gt p)).n) (fun _ _ i => n - (intOf i).toNat)
  case atStart => exact ⟨0, by omega, rfl, rfl, rfl⟩
  case round =>
    obtain ⟨k, hk, rfl, rfl, rfl⟩ := hrel
    by_cases hlt : k < n
    · obtain ⟨b, o, rfl, _, hc⟩ := hrow.at_ hlt
      have hbx := bits_xor (sm k (gt p)) (gt p k)
      by_cases hk0 : k = 0
      · have hkz : ((k : Int) == 0) = true := by rw [hk0]; rfl
        have hf : Hid (gt p k = if k + 1 = 0 then (0 : F) else gt p 0) := by
          unfold Hid
          rw [if_neg (by omega), hk0]
        clear hk0
        go_wp2
        go_round
        case rel => exact ⟨k + 1, by omega, by go_num, by rw [← hf.out], rfl⟩
        case measure => simp [intOf]; omega
      · have hkz : ((k : Int) == 0) = false := by rw [beq_eq_false_iff_ne]; omega
        have hf : Hid ((if k = 0 then (0 : F) else gt p 0) = if k + 1 = 0 then (0 : F) else gt p 0) := by
          unfold Hid
          rw [if_neg hk0, if_neg (by omega)]
        clear hk0
        go_wp2
        go_round
        case rel => exact ⟨k + 1, by omega, by go_num, by rw [← hf.out], rfl⟩
        case measure => simp [intOf]; omega
    · obtain rfl : k = n := by omega
      have hf : Hid ((if k = 0 then (0 : F) else gt p 0) = gt p 0) := by
        unfold Hid
        split
        · rw [gt_ge (by rw [hrow.len]; omega)]
        · rfl
      rw [hf.out]
      by_cases ha0 : a = 0
      · have htr : tr p = [] := List.eq_nil_of_length_eq_zero (by rw [tr_length, hrow.len, HA.out, ha0])
        have hm0 : ((mn : Int) == 0) = true := by
          have h := hmn.out
          rw [shift_none htr] at h
          rw [h]; rfl
        have haz : ((a : Int) == 0) = true := by rw [ha0]; rfl
        have haz1 : (((a : Int) - 1) == -1) = true := by rw [ha0]; rfl
        clear ha0 htr
        go_wp2_with (go_at_call 31; refine (Degree_at A k ca a p _ hrow HA.out).mono ?_; rintro e w' ⟨rfl, rfl⟩)
        go_ret
        exact ⟨rfl, hB3⟩
      · have htr : tr p ≠ [] := fun e => by
          have h := tr_length p
          rw [e, hrow.len, HA.out] at h
          simp at h
          omega
        have hsh := shift_some htr
        have hta : (tr p).length = a := by rw [tr_length, hrow.len, HA.out]
        obtain rfl : mn = a + 1 := by rw [hmn.out, hsh]; simp [hta]
        have haz : ((a : Int) == 0) = false := by rw [beq_eq_false_iff_ne]; omega
        have hT4 := hT3.row
        obtain ⟨tb, to, rfl, _, _⟩ := hT4.at_ (k := 0) (by omega)
        have hM3' : Row w3 M (a + 1) (0 :: tr p) := by rw [← hsh]; exact hM3
        have HC := Lib.hid (hT4.alloc (.cells #[.int .u8 0] 5)).cells
        have HTA := Lib.hid hta
        have ha1 : 1 ≤ a := by omega
        clear ha0 htr hsh hta hM3
        have hlit : (w3.alloc (.cells #[.int .u8 0] 5)).ownsRow w3.heap.size 5 1 (.slice (some ⟨w3.heap.size, 0, none⟩) 1 1) 1 (cs [0]) := World.ownsRow_lit w3 #[.int .u8 0] 1 (Nat.le_refl _) (by unfold maxLen; omega) rfl
        have HLIT := Lib.hid hlit
        clear hlit
        go_wp2_with (at_builtin; refine wpList_append_own _ rfl _ _ 31 rfl w3.heap.size 5 i0 (.int .u8 0) 1 1 Try.underlying31 hi hz0 hz1 hz2 rfl (by decide) _ _ _ rfl HLIT.out ⟨tb, to, none⟩ a tc (cs (tr p)) rfl (by rw [cs_length, HTA.out, Nat.mul_one]) HC.out (cs_one _) (by unfold maxLen; omega) (by omega) (by simp) ?_; intro v' w4 hown4 hgrow hnil)
        rw [show (1 : Nat) + a = a + 1 by omega, ← cs_append] at hown4
        obtain ⟨V, cv, hv, _⟩ := own_shape hown4
        subst hv
        have hb4 : Below w3.heap.size w3 w4 := (bel1 w3 _).grown hgrow (by simp) (fun g e => by cases e; exact Nat.le_refl _)
        have hM4 := hM3'.below hb4
        have hV4 := Row.of_own hown4
        have hp4 := hp3.below hb4
        have hB4 := hB3.trans (hb4.mono hB3.size)
        clear hown4 hgrow hb4 hB3 hM3' hp3 hT3 hT4 HC HLIT hrow
        go_wp2_with fail
        refine (Same_c M V (a + 1) cm cv _ _ w4 hM4 hV4 rfl).mono ?_
        rintro e _ ⟨rfl, k4, rfl⟩
        have hp5 := hp4.drewN k4
        have hM5 := hM4.drewN k4
        have hB5 := below_drewN hB4 k4
        clear hM4 hV4 hp4 hB4
        generalize w4.drewN k4 = w5 at *
        have h5 := Eval_c A k ca p 0 w5 hp5.row
        rw [ev_at_zero] at h5
        have H5 := Lib.hid h5
        clear h5
        go_wp2_with fail
        refine H5.out.mono ?_
        rintro e _ ⟨rfl, k5, rfl⟩
        have hp6 := hp5.drewN k5
        have hM6 := hM5.drewN k5
        have hB6 := below_drewN hB5 k5
        clear hp5 hM5 hB5 H5
        generalize w5.drewN k5 = w6 at *
        have h6 := Eval_c A k ca p 1 w6 hp6.row
        rw [ev_at_one p k (by rw [hp6.row.len]; exact Nat.le_refl _)] at h6
        have H6 := Lib.hid h6
        clear h6
        go_wp2_with fail
        refine H6.out.mono ?_
        rintro e _ ⟨rfl, k6, rfl⟩
        have hp7 := hp6.drewN k6
        have hM7 := hM6.drewN k6
        have hB7 := below_drewN hB6 k6
        clear hp6 hM6 hB6 H6
        generalize w6.drewN k6 = w7 at *
        have hdm : tl (0 :: tr p) (a + 1) = a + 1 := by
          have h1 := tl_here (l := 0 :: tr p) (k := a) (by
            have h2 := tr_last (l := p) (fun e => by have := HTA.out; rw [e] at this; simp at this; omega)
            rw [HTA.out] at h2
            rw [show a = (a - 1) + 1 by omega, gt_cons_succ, gt_tr]
            exact h2)
          exact h1
        have HDM := Lib.hid hdm
        have hnum : (((a + 1 : Nat) : Int) - 1 == (a : Int) - 1 + 1) = true := by rw [beq_iff_eq]; omega
        clear hdm
        go_wp2_with (first
          | (go_at_call 31; (with_reducible refine (Degree_at M (a + 1) cm (a + 1) _ _ hM7 HDM.out).mono ?_); rintro e w' ⟨rfl, rfl⟩)
          | (go_at_call 31; (with_reducible refine (Degree_at A k ca a p _ hp7.row HA.out).mono ?_); rintro e w' ⟨rfl, rfl⟩))
        go_ret
        exact ⟨rfl, hB7⟩
set_option maxHeartbeats 1000000 in
theorem shifts_great (A : Option Addr) (n ca : Nat) (w : World) (h : 60 < n) (hn : n ≤ 9223372036854775807) :
    Calls Try.prog 13 #[.slice A n ca] w fun e w' => e = .returned (.bool true) ∧ Below w.heap.size w w' := by
  go_enter Try.func13, Try.ntmps13
  go_wp2_with (go_at_call 27; refine (alive02_c _).mono ?_; rintro e w1 ⟨rfl, hb1⟩)
  go_ret
  exact ⟨rfl, hb1⟩
theorem walk_PolyShifts (w : World) (A : Option Addr) (n ca : Nat) (p : List F) (hp : RowIn w A n ca p) :
    Calls Try.prog 13 #[.slice A n ca] w fun e w' => e = .returned (.bool true) ∧ Below w.heap.size w w' := by
  by_cases hn : n ≤ 60
  · exact shifts_small A n ca p w hp hn
  · exact shifts_great A n ca w (by omega) hp.row.max
end Go.Proofs.Ytpghcclgphjflaa
