/-
  LAW 09: LengthsCosts, LengthsMade. No conditions.
-/
import Derived.Test.YtfnjjeopojdnjaaLaw09
namespace Go.Proofs.Ytfnjjeopojdnjaa
open Go.RowKit
set_option maxRecDepth 100000
set_option linter.unusedVariables false

set_option maxRecDepth 1000000 in
set_option maxHeartbeats 4000000 in
theorem walk_LengthsCosts (w : World) (A : Option Addr) (n ca : Nat) (fr : List Int) (ha : IRow w A n .i64 fr) (B : Option Addr) (m cb : Nat) (l : List Int) (hb : IRow w B m .i64 l) :
    Calls Try.prog 5 #[.slice A n ca, .slice B m cb] w fun e w' => e = .returned (.bool true) ∧ Below w.heap.size w w' := by
  have hm1 := ha.max'
  have hm2 := hb.max'
  by_cases h1 : (300 : Int) < n
  · go_enter Try.func5, Try.ntmps5
    go_wp2_with fail
    refine (alive09_c w).mono ?_
    rintro e w1 ⟨rfl, hb1⟩
    go_wp2
    go_ret
    exact ⟨rfl, hb1⟩
  · by_cases h2 : (300 : Int) < m
    · go_enter Try.func5, Try.ntmps5
      go_wp2_with fail
      refine (alive09_c w).mono ?_
      rintro e w1 ⟨rfl, hb1⟩
      go_wp2
      go_ret
      exact ⟨rfl, hb1⟩
    · go_enter Try.func5, Try.ntmps5
      go_wp2_with fail
      refine (alive09_c w).mono ?_
      rintro e w1 ⟨rfl, hb1⟩
      have ha1 := ha.below hb1
      have hl1 := hb.below hb1
      have HR := RefRight_c B m cb l w1 hl1
      clear ha hb
      cases hr : (RightB l m && decide (m ≤ 288)) with
      | false =>
        have hfit : fitB l m = false := by
          unfold fitB
          rw [Bool.and_comm (decide _), hr]
          rfl
        rw [hr] at HR
        have HRR := Lib.hid HR
        clear HR hr
        go_wp2_with fail
        refine HRR.out.mono ?_
        rintro e w' ⟨rfl, rfl⟩
        go_wp2_with fail
        refine (Cost_c A B n m ca cb fr l w1 ha1 hl1 (by omega) (by omega)).mono ?_
        rintro e w2 ⟨rfl, q, rfl⟩
        have ha2 := ha1.drewN q
        have hl2 := hl1.drewN q
        have hb2 := below_drewN hb1 q
        generalize w1.drewN q = w2 at *
        go_wp2_with fail
        refine (RefCost_c A B n m ca cb fr l w2 ha2 hl2 (by omega) (by omega)).mono ?_
        rintro e w3 ⟨rfl, q3, rfl⟩
        have hl3 := hl2.drewN q3
        have hb3 := below_drewN hb2 q3
        generalize w2.drewN q3 = w3 at *
        generalize cst fr l (min n m) = x at *
        go_wp2_with fail
        refine (Fit_c B m cb l w3 hl3).mono ?_
        rintro e w4 ⟨rfl, q4, rfl⟩
        rw [hfit]
        go_wp2
        go_ret
        exact ⟨rfl, below_drewN hb3 q4⟩
      | true =>
        have hrb : RightB l m = true := by
          cases hq : RightB l m with
          | true => rfl
          | false => rw [hq] at hr; cases hr
        have hfit : fitB l m = decide (kr l m ≤ 32768) := by
          unfold fitB
          rw [Bool.and_comm (decide (m ≤ 288)), hr]
          rfl
        have hri := RightB_all hrb
        have HS := Lib.hid (fun W h => RefSum_c B m cb l W h hri (by omega))
        rw [hr] at HR
        have HRR := Lib.hid HR
        have HFT := Lib.hid hfit
        have hkr2 : decide (((kr l m : Nat) : Int) ≤ 32768) = decide (kr l m ≤ 32768) := decide_eq_decide.2 (by omega)
        obtain ⟨y, hy⟩ : ∃ y, y = decide (kr l m ≤ 32768) := ⟨_, rfl⟩
        rw [← hy] at hkr2 HFT
        clear HR hr hrb hri hfit hy
        go_wp2_with fail
        refine HRR.out.mono ?_
        rintro e w' ⟨rfl, rfl⟩
        go_wp2_with fail
        refine (HS.out w1 hl1).mono ?_
        rintro e w' ⟨rfl, rfl⟩
        go_wp2_with fail
        refine (Cost_c A B n m ca cb fr l w1 ha1 hl1 (by omega) (by omega)).mono ?_
        rintro e w2 ⟨rfl, q, rfl⟩
        have ha2 := ha1.drewN q
        have hl2 := hl1.drewN q
        have hb2 := below_drewN hb1 q
        generalize w1.drewN q = w2 at *
        go_wp2_with fail
        refine (RefCost_c A B n m ca cb fr l w2 ha2 hl2 (by omega) (by omega)).mono ?_
        rintro e w3 ⟨rfl, q3, rfl⟩
        have hl3 := hl2.drewN q3
        have hb3 := below_drewN hb2 q3
        generalize w2.drewN q3 = w3 at *
        generalize cst fr l (min n m) = x at *
        go_wp2_with fail
        refine (Fit_c B m cb l w3 hl3).mono ?_
        rintro e w4 ⟨rfl, q4, rfl⟩
        rw [HFT.out]
        go_wp2
        go_ret
        refine ⟨?_, below_drewN hb3 q4⟩
        first | rfl | (cases y <;> simp)

set_option maxRecDepth 1000000 in
set_option maxHeartbeats 8000000 in
theorem walk_LengthsMade (w : World) (A : Option Addr) (n ca : Nat) (fr : List Int) (ha : IRow w A n .i64 fr) (L : Int) (_hL : (Lit.int .i64 L).wf = true) :
    Calls Try.prog 3 #[.slice A n ca, .int .i64 L] w fun e w' => e = .returned (.bool true) ∧ Below w.heap.size w w' := by
  have hm1 := ha.max'
  by_cases h1 : (300 : Int) < n
  · go_enter Try.func3, Try.ntmps3
    go_wp2_with fail
    refine (alive09_c w).mono ?_
    rintro e w1 ⟨rfl, hb1⟩
    go_wp2
    go_ret
    exact ⟨rfl, hb1⟩
  · by_cases hno : chkE fr n L = 0
    · obtain ⟨hL, hn, hfb, hmany⟩ := chk_no hno
      have HFR := Lib.hid (fun i hi => (FreqB_all hfb i hi).1)
      obtain ⟨Lk, rfl⟩ : ∃ k : Nat, L = (k : Int) := ⟨L.toNat, by omega⟩
      have hLk : Lk ≤ 15 := by omega
      have HNO := Lib.hid hno
      go_enter Try.func3, Try.ntmps3
      go_wp2_with fail
      refine (alive09_c w).mono ?_
      rintro e w1 ⟨rfl, hb1⟩
      have ha1 := ha.below hb1
      clear ha hno hfb hmany
      go_wp2_with fail
      refine (Make_x A n ca fr Lk w1 ha1 HNO.out).mono ?_
      rintro e w2 ⟨g, rfl, AA, hr, hx, hb2⟩
      rw [Int.toNat_natCast] at hx
      have ha2 := ha1.below hb2
      have hB2 := hb1.trans (hb2.mono hb1.size)
      clear ha1 hb2
      go_wp2_with fail
      refine (Check_c A n ca fr Lk w2 ha2).mono ?_
      rintro e w3 ⟨rfl, q, rfl⟩
      rw [HNO.out]
      have ha3 := ha2.drewN q
      have hr3 := hr.drewN q
      have hB3 := below_drewN hB2 q
      generalize w2.drewN q = w3 at *
      have hnn : ((n : Int) != (n : Int)) = false := by simp
      have HX := Lib.hid hx
      clear ha2 hr hB2 hx
      go_wp2
      go_loopw [8, 47] (fun vu vi wr => ∃ k u q : Nat, k ≤ n ∧ u ≤ k ∧ vi = .int .i64 k ∧ vu = .int .i64 u ∧ Hid (u = (comeN fr k).length) ∧ Hid (wr = w3.drewN q)) (fun _ vi _ => n - (intOf vi).toNat)
      case atStart => exact ⟨0, 0, 0, by omega, by omega, rfl, rfl, rfl, rfl⟩
      case round =>
        obtain ⟨k, u, q, hk, hu, rfl, rfl, hul, hw⟩ := hrel
        by_cases hlt : k < n
        · have ha4 := ha3.drewN q
          have hr4 := hr3.drewN q
          rw [← hw.out] at ha4 hr4
          obtain ⟨b1, o1, rfl, _, q1⟩ := ha4.at_ hlt
          obtain ⟨b2, o2, e2, _, q2⟩ := hr4.at_ hlt
          injection e2 with e2
          injection e2 with e2 e2'
          subst e2 e2'
          rw [Nat.zero_add, arr_gi AA hlt] at q2
          have hkn : (k : Int) < n := by omega
          have hcs := come_succ fr k
          have hmost := HX.out.most k
          by_cases hpos : 0 < gi fr k
          · have h1 := HX.out.pos k hlt hpos
            rw [if_pos hpos] at hcs
            have HCS := Lib.hid hcs
            generalize gi fr k = f at *
            obtain ⟨x, hx⟩ : ∃ x, x = AA k := ⟨_, rfl⟩
            rw [← hx] at q2 hmost h1
            have hxi : (0 : Int) < (x : Int) := by omega
            have hxi2 : ¬ (x : Int) < 0 := by omega
            have hxi3 : ¬ (Lk : Int) < (x : Int) := by omega
            clear hcs hx
            go_wp2
            go_roundw
            case rel => exact ⟨k + 1, u + 1, q, by omega, by omega, by go_num, by go_num, by unfold Hid; rw [HCS.out, ← hul.out], hw⟩
            case measure => simp [intOf]; omega
          · have h1 := HX.out.zero k hlt hpos
            rw [if_neg hpos] at hcs
            rw [h1] at q2
            have HCS := Lib.hid hcs
            generalize gi fr k = f at *
            obtain ⟨x, hx⟩ : ∃ x : Nat, x = 0 := ⟨_, rfl⟩
            rw [← hx] at q2
            have hxi : ¬ (0 : Int) < (x : Int) := by omega
            have hxi2 : ¬ (x : Int) < 0 := by omega
            have hxi3 : ¬ (Lk : Int) < (x : Int) := by omega
            clear hcs h1 hx hmost
            go_wp2
            go_roundw
            case rel => exact ⟨k + 1, u, q, by omega, by omega, by go_num, rfl, by unfold Hid; rw [HCS.out, ← hul.out]; rfl, hw⟩
            case measure => simp [intOf]; omega
        · obtain rfl : k = n := by omega
          have hkn : ¬ (k : Int) < (k : Int) := by omega
          have hr4 := hr3.drewN q
          have hB4 := below_drewN hB3 q
          rw [← hw.out] at hr4 hB4
          have hrt : ∀ i, i < k → 0 ≤ gi (nI (arr AA k)) i ∧ gi (nI (arr AA k)) i ≤ 15 := fun i hi => by
            rw [arr_gi AA hi]
            have := HX.out.most i
            omega
          have hsum : kr (nI (arr AA k)) k = if u = 0 then 0 else if u = 1 then 16384 else 32768 := by
            rw [HX.out.kr hLk k (Nat.le_refl _), HX.out.full, hul.out]
          have HS := Lib.hid (RefSum_c (some ⟨g, 0, none⟩) k k (nI (arr AA k)) wr hr4 hrt (by omega))
          have HB4 := Lib.hid hB4
          generalize kr (nI (arr AA k)) k = S at *
          clear hrt hr4 hB4 hr3 hB3 ha3
          rcases (show u = 0 ∨ u = 1 ∨ 2 ≤ u by omega) with hu0 | hu1 | hu2
          · rw [if_pos hu0] at hsum
            rw [hsum] at HS
            have hui : ((u : Int) == 0) = true := by simp; omega
            clear hsum
            go_wp2_with fail
            refine HS.out.mono ?_
            rintro e w5 ⟨rfl, rfl⟩
            go_wp2
            go_ret
            exact ⟨rfl, HB4.out⟩
          · rw [if_neg (by omega), if_pos hu1] at hsum
            rw [hsum] at HS
            have hui : ((u : Int) == 0) = false := by simp; omega
            have hui1 : ((u : Int) == 1) = true := by simp; omega
            clear hsum
            go_wp2_with fail
            refine HS.out.mono ?_
            rintro e w5 ⟨rfl, rfl⟩
            go_wp2
            go_ret
            exact ⟨rfl, HB4.out⟩
          · rw [if_neg (by omega), if_neg (by omega)] at hsum
            rw [hsum] at HS
            have hui : ((u : Int) == 0) = false := by simp; omega
            have hui1 : ((u : Int) == 1) = false := by simp; omega
            have hui2 : (1 : Int) < (u : Int) := by omega
            clear hsum
            go_wp2_with fail
            refine HS.out.mono ?_
            rintro e w5 ⟨rfl, rfl⟩
            go_wp2
            go_ret
            exact ⟨rfl, HB4.out⟩
    · have hnz : ((chkE fr n L : Int) != 0) = true := by simp; omega
      have HNO := Lib.hid hno
      go_enter Try.func3, Try.ntmps3
      go_wp2_with fail
      refine (alive09_c w).mono ?_
      rintro e w1 ⟨rfl, hb1⟩
      have ha1 := ha.below hb1
      clear ha hno
      go_wp2_with fail
      refine (Make_no A n ca fr L w1 ha1 HNO.out).mono ?_
      rintro e w2 ⟨rfl, hb2⟩
      have ha2 := ha1.below hb2
      have hB2 := hb1.trans (hb2.mono hb1.size)
      clear ha1 hb2
      go_wp2_with fail
      refine (Check_c A n ca fr L w2 ha2).mono ?_
      rintro e w3 ⟨rfl, q, rfl⟩
      generalize chkE fr n L = x at *
      go_wp2
      go_ret
      exact ⟨rfl, below_drewN hB2 q⟩
end Go.Proofs.Ytfnjjeopojdnjaa
