/-
  LAW 09: LengthsLeast. No conditions.
-/
import Derived.Test.YtfnjjeopojdnjaaLenL
namespace Go.Proofs.Ytfnjjeopojdnjaa
open Go.RowKit
set_option maxRecDepth 100000
set_option linter.unusedVariables false

theorem hN_in {x : Int} {b : Nat} (h0 : 0 ≤ x) (h1 : x ≤ b) : hN x b = x.toNat := by unfold hN; omega
theorem cst_co {fr l : List Int} {o : Nat → Nat} {n : Nat} (hf : ∀ i, i < n → 0 ≤ gi fr i ∧ gi fr i ≤ 1073741824) (ho : ∀ i, i < n → gi l i = (o i : Nat) ∧ o i ≤ 15) : ∀ k, k ≤ n → cst fr l k = coF fr o k := by
  intro k
  induction k with
  | zero => intro _; rfl
  | succ k ih =>
    intro hk
    show cst fr l k + _ = coF fr o k + (gi fr k).toNat * o k
    have h1 := hf k (by omega)
    obtain ⟨h2, h3⟩ := ho k (by omega)
    rw [ih (by omega), hN_in h1.1 (by omega), h2, hN_in (by omega) (by omega), Int.toNat_natCast]
theorem cst_made {fr : List Int} {n L m : Nat} {A : Nat → Nat} (h : MadeX fr n L m A) (hL : L ≤ 15) (hf : ∀ i, i < n → 0 ≤ gi fr i ∧ gi fr i ≤ 1073741824) : cst fr (nI (arr A n)) n = coF fr A n :=
  cst_co hf (fun i hi => ⟨arr_gi A hi, by have := h.most i; omega⟩) n (Nat.le_refl _)
/-- lengths that are handed in, by symbols: those of symbols that don't come count for nothing -/
theorem kr_some {fr l : List Int} {n : Nat} (hl : ∀ i, i < n → 0 ≤ gi l i ∧ gi l i ≤ 15) (hp : ∀ i, i < n → 0 < gi fr i → 1 ≤ gi l i) : ∀ k, k ≤ n → krF fr (fun v => (gi l v).toNat) k ≤ kr l k := by
  intro k
  induction k with
  | zero => intro _; exact Nat.le_refl _
  | succ k ih =>
    intro hk
    show krF fr _ k + (if 0 < gi fr k then 2 ^ (15 - (gi l k).toNat) else 0) ≤ kr l k + (if 0 < gi l k then 2 ^ (15 - lnN l k) else 0)
    have h1 := ih (by omega)
    by_cases h0 : 0 < gi fr k
    · have h2 := hp k (by omega) h0
      rw [if_pos h0, if_pos (by omega)]
      unfold lnN
      omega
    · rw [if_neg h0]
      omega
set_option maxRecDepth 1000000 in
set_option maxHeartbeats 16000000 in
theorem walk_LengthsLeast (w : World) (A : Option Addr) (n ca : Nat) (fr : List Int) (ha : IRow w A n .i64 fr) (L : Int) (_hL : (Lit.int .i64 L).wf = true) (B : Option Addr) (m cb : Nat) (l : List Int) (hb : IRow w B m .i64 l) :
    Calls Try.prog 4 #[.slice A n ca, .int .i64 L, .slice B m cb] w fun e w' => e = .returned (.bool true) ∧ Below w.heap.size w w' := by
  have hm1 := ha.max'
  have hm2 := hb.max'
  by_cases h1 : (300 : Int) < n
  · go_enter Try.func4, Try.ntmps4
    go_wp2_with fail
    refine (alive09_c w).mono ?_
    rintro e w1 ⟨rfl, hb1⟩
    go_wp2
    go_ret
    exact ⟨rfl, hb1⟩
  · by_cases h2 : (300 : Int) < m
    · go_enter Try.func4, Try.ntmps4
      go_wp2_with fail
      refine (alive09_c w).mono ?_
      rintro e w1 ⟨rfl, hb1⟩
      go_wp2
      go_ret
      exact ⟨rfl, hb1⟩
    · by_cases hno : chkE fr n L = 0
      · obtain ⟨hL, hn, hfb, hmany⟩ := chk_no hno
        have HFR := Lib.hid (FreqB_all hfb)
        obtain ⟨Lk, rfl⟩ : ∃ k : Nat, L = (k : Int) := ⟨L.toNat, by omega⟩
        have hLk : Lk ≤ 15 := by omega
        have hL1 : 1 ≤ Lk := by omega
        have HNO := Lib.hid hno
        go_enter Try.func4, Try.ntmps4
        go_wp2_with fail
        refine (alive09_c w).mono ?_
        rintro e w1 ⟨rfl, hb1⟩
        have ha1 := ha.below hb1
        have hl1 := hb.below hb1
        clear ha hb hno hfb hmany
        go_wp2_with fail
        refine (Check_c A n ca fr Lk w1 ha1).mono ?_
        rintro e w3 ⟨rfl, q, rfl⟩
        rw [HNO.out]
        have ha3 := ha1.drewN q
        have hl3 := hl1.drewN q
        have hB3 := below_drewN hb1 q
        generalize w1.drewN q = w3 at *
        clear ha1 hl1 hb1
        go_wp2_with fail
        refine (Make_x A n ca fr Lk w3 ha3 HNO.out).mono ?_
        rintro e w4 ⟨g, rfl, AA, hr, hx, hb4⟩
        rw [Int.toNat_natCast] at hx
        have ha4 := ha3.below hb4
        have hl4 := hl3.below hb4
        have hB4 := hB3.trans (hb4.mono hB3.size)
        have HX := Lib.hid hx
        clear ha3 hl3 hB3 hb4 hx
        go_wp2_with fail
        refine (RefCost_c A _ n n ca n fr (nI (arr AA n)) w4 ha4 hr (by omega) (by omega)).mono ?_
        rintro e w5 ⟨rfl, q5, rfl⟩
        rw [Nat.min_self, cst_made HX.out hLk HFR.out]
        have HCL := cst_le fr (nI (arr AA n)) n
        rw [cst_made HX.out hLk HFR.out] at HCL
        have ha5 := ha4.drewN q5
        have hl5 := hl4.drewN q5
        have hB5 := below_drewN hB4 q5
        generalize w4.drewN q5 = w5 at *
        clear ha4 hl4 hB4 hr
        have HLK := Lib.hid (HX.out.leastK (.inr hL1) (fun i hi => (HFR.out i hi).1))
        obtain ⟨co, hco⟩ : ∃ co, co = coF fr AA n := ⟨_, rfl⟩
        rw [← hco] at HLK HCL ⊢
        have HCO := Lib.hid hco
        clear hco
        have hcc : ((co : Int) != (co : Int)) = false := by simp
        by_cases hn6 : (n : Int) ≤ 6
        · by_cases hL6 : (Lk : Int) ≤ 6
          · have HLC := Lib.hid (Least_c A n ca fr Lk hLk (by omega) w5 ha5 HFR.out n 0 32768 (by omega) (by omega))
            rw [HLK.out] at HLC
            have HLC2 : Hid (Calls Try.prog 14 #[.slice A n ca, .int .i64 Lk, .int .i64 0, .int .i64 32768] w5 fun e w' => e = .returned (.int .i64 (co : Int)) ∧ w5 = w') := HLC.out
            clear HLC
            go_wp2_with fail
            refine HLC2.out.mono ?_
            rintro e w6 ⟨rfl, rfl⟩
            have HR := RefRight_c B m cb l w5 hl5
            cases hr : (RightB l m && decide (m ≤ 288)) with
            | false =>
              rw [hr] at HR
              have HRR := Lib.hid HR
              clear HR hr
              go_wp2_with fail
              refine HRR.out.mono ?_
              rintro e w' ⟨rfl, rfl⟩
              go_wp2
              go_ret
              exact ⟨rfl, hB5⟩
            | true =>
              have hrb : RightB l m = true := by
                cases hq : RightB l m with
                | true => rfl
                | false => rw [hq] at hr; cases hr
              have hri := RightB_all hrb
              have HS := Lib.hid (RefSum_c B m cb l w5 hl5 hri (by omega))
              rw [hr] at HR
              have HRR := Lib.hid HR
              have HRI := Lib.hid hri
              clear HR hr hrb hri
              obtain ⟨S, hS⟩ : ∃ S, S = kr l m := ⟨_, rfl⟩
              rw [← hS] at HS
              have HSS := Lib.hid hS
              clear hS
              by_cases hbig : (32768 : Int) < (S : Int)
              · go_wp2_with fail
                refine HRR.out.mono ?_
                rintro e w' ⟨rfl, rfl⟩
                go_wp2_with fail
                refine HS.out.mono ?_
                rintro e w' ⟨rfl, rfl⟩
                go_wp2
                go_ret
                exact ⟨rfl, hB5⟩
              · by_cases hmn : m = n
                · have hmi : ((m : Int) != (n : Int)) = false := by simp; omega
                  have HMN := Lib.hid hmn
                  clear hmn
                  go_wp2_with fail
                  refine HRR.out.mono ?_
                  rintro e w' ⟨rfl, rfl⟩
                  go_wp2_with fail
                  refine HS.out.mono ?_
                  rintro e w' ⟨rfl, rfl⟩
                  go_wp2
                  go_loop [68] (fun vi => ∃ k : Nat, k ≤ n ∧ vi = .int .i64 k ∧ Hid (∀ v, v < k → 0 < gi fr v → 1 ≤ gi l v ∧ gi l v ≤ (Lk : Int))) (fun vi => n - (intOf vi).toNat)
                  case atStart => exact ⟨0, by omega, rfl, fun v hv => by omega⟩
                  case round =>
                    obtain ⟨k, hk, rfl, hs⟩ := hrel
                    by_cases hlt : k < n
                    · obtain ⟨b1, o1, rfl, _, q1⟩ := ha5.at_ hlt
                      obtain ⟨b2, o2, rfl, _, q2⟩ := hl5.at_ (show k < m by have := HMN.out; omega)
                      have hkn : (k : Int) < n := by omega
                      have hkm : (k : Int) < m := by have := HMN.out; omega
                      have hnext : Hid ((¬ 0 < gi fr k ∨ (1 ≤ gi l k ∧ gi l k ≤ (Lk : Int))) → ∀ v, v < k + 1 → 0 < gi fr v → 1 ≤ gi l v ∧ gi l v ≤ (Lk : Int)) := by
                        intro h v hv h0
                        rcases (show v < k ∨ v = k by omega) with h3 | rfl
                        · exact hs.out v h3 h0
                        · exact h.resolve_left (fun h => h h0)
                      generalize gi fr k = f at *
                      generalize gi l k = y at *
                      by_cases hpos : 0 < f
                      · by_cases hy1 : y < 1
                        · clear hnext
                          go_wp2
                          go_ret
                          exact ⟨rfl, hB5⟩
                        · by_cases hyL : (Lk : Int) < y
                          · clear hnext
                            go_wp2
                            go_ret
                            exact ⟨rfl, hB5⟩
                          · have HN := Lib.hid (hnext.out (.inr ⟨by omega, by omega⟩))
                            clear hnext
                            go_wp2
                            go_round
                            case rel => exact ⟨k + 1, by omega, by go_num, HN.out⟩
                            case measure => simp [intOf]; omega
                      · have HN := Lib.hid (hnext.out (.inl hpos))
                        clear hnext
                        go_wp2
                        go_round
                        case rel => exact ⟨k + 1, by omega, by go_num, HN.out⟩
                        case measure => simp [intOf]; omega
                    · obtain rfl : k = n := by omega
                      have hkn : ¬ (k : Int) < (k : Int) := by omega
                      have hfin : (co : Int) ≤ ((cst fr l (min k m) : Nat) : Int) := by
                        have hmk : m = k := HMN.out
                        have hrr := HRI.out
                        have hss := hs.out
                        have h3 := HX.out.least (fun v => (gi l v).toNat) (fun v hv h0 => by have := hss v hv h0; omega) (Nat.le_trans (kr_some (n := k) (fun i hi => hrr i (by omega)) (fun i hi h0 => (hss i hi h0).1) k (Nat.le_refl _)) (by rw [← hmk, ← HSS.out]; omega))
                        have h4 : cst fr l k = coF fr (fun v => (gi l v).toNat) k := cst_co HFR.out (fun i hi => by have := hrr i (by omega); exact ⟨by omega, by omega⟩) k (Nat.le_refl _)
                        rw [hmk, Nat.min_self, h4]
                        have := HCO.out
                        omega
                      have HFIN := Lib.hid hfin
                      clear hfin
                      go_wp2_with fail
                      refine (RefCost_c A B k m ca cb fr l w5 ha5 hl5 (by omega) (by omega)).mono ?_
                      rintro e w7 ⟨rfl, q7, rfl⟩
                      have hfin := HFIN.out
                      generalize cst fr l (min k m) = z at *
                      go_wp2
                      go_ret
                      exact ⟨rfl, below_drewN hB5 q7⟩
                · have hmi : ((m : Int) != (n : Int)) = true := by simp; omega
                  go_wp2_with fail
                  refine HRR.out.mono ?_
                  rintro e w' ⟨rfl, rfl⟩
                  go_wp2_with fail
                  refine HS.out.mono ?_
                  rintro e w' ⟨rfl, rfl⟩
                  go_wp2
                  go_ret
                  exact ⟨rfl, hB5⟩
          · have HR := RefRight_c B m cb l w5 hl5
            cases hr : (RightB l m && decide (m ≤ 288)) with
            | false =>
              rw [hr] at HR
              have HRR := Lib.hid HR
              clear HR hr
              go_wp2_with fail
              refine HRR.out.mono ?_
              rintro e w' ⟨rfl, rfl⟩
              go_wp2
              go_ret
              exact ⟨rfl, hB5⟩
            | true =>
              have hrb : RightB l m = true := by
                cases hq : RightB l m with
                | true => rfl
                | false => rw [hq] at hr; cases hr
              have hri := RightB_all hrb
              have HS := Lib.hid (RefSum_c B m cb l w5 hl5 hri (by omega))
              rw [hr] at HR
              have HRR := Lib.hid HR
              have HRI := Lib.hid hri
              clear HR hr hrb hri
              obtain ⟨S, hS⟩ : ∃ S, S = kr l m := ⟨_, rfl⟩
              rw [← hS] at HS
              have HSS := Lib.hid hS
              clear hS
              by_cases hbig : (32768 : Int) < (S : Int)
              · go_wp2_with fail
                refine HRR.out.mono ?_
                rintro e w' ⟨rfl, rfl⟩
                go_wp2_with fail
                refine HS.out.mono ?_
                rintro e w' ⟨rfl, rfl⟩
                go_wp2
                go_ret
                exact ⟨rfl, hB5⟩
              · by_cases hmn : m = n
                · have hmi : ((m : Int) != (n : Int)) = false := by simp; omega
                  have HMN := Lib.hid hmn
                  clear hmn
                  go_wp2_with fail
                  refine HRR.out.mono ?_
                  rintro e w' ⟨rfl, rfl⟩
                  go_wp2_with fail
                  refine HS.out.mono ?_
                  rintro e w' ⟨rfl, rfl⟩
                  go_wp2
                  go_loop [68] (fun vi => ∃ k : Nat, k ≤ n ∧ vi = .int .i64 k ∧ Hid (∀ v, v < k → 0 < gi fr v → 1 ≤ gi l v ∧ gi l v ≤ (Lk : Int))) (fun vi => n - (intOf vi).toNat)
                  case atStart => exact ⟨0, by omega, rfl, fun v hv => by omega⟩
                  case round =>
                    obtain ⟨k, hk, rfl, hs⟩ := hrel
                    by_cases hlt : k < n
                    · obtain ⟨b1, o1, rfl, _, q1⟩ := ha5.at_ hlt
                      obtain ⟨b2, o2, rfl, _, q2⟩ := hl5.at_ (show k < m by have := HMN.out; omega)
                      have hkn : (k : Int) < n := by omega
                      have hkm : (k : Int) < m := by have := HMN.out; omega
                      have hnext : Hid ((¬ 0 < gi fr k ∨ (1 ≤ gi l k ∧ gi l k ≤ (Lk : Int))) → ∀ v, v < k + 1 → 0 < gi fr v → 1 ≤ gi l v ∧ gi l v ≤ (Lk : Int)) := by
                        intro h v hv h0
                        rcases (show v < k ∨ v = k by omega) with h3 | rfl
                        · exact hs.out v h3 h0
                        · exact h.resolve_left (fun h => h h0)
                      generalize gi fr k = f at *
                      generalize gi l k = y at *
                      by_cases hpos : 0 < f
                      · by_cases hy1 : y < 1
                        · clear hnext
                          go_wp2
                          go_ret
                          exact ⟨rfl, hB5⟩
                        · by_cases hyL : (Lk : Int) < y
                          · clear hnext
                            go_wp2
                            go_ret
                            exact ⟨rfl, hB5⟩
                          · have HN := Lib.hid (hnext.out (.inr ⟨by omega, by omega⟩))
                            clear hnext
                            go_wp2
                            go_round
                            case rel => exact ⟨k + 1, by omega, by go_num, HN.out⟩
                            case measure => simp [intOf]; omega
                      · have HN := Lib.hid (hnext.out (.inl hpos))
                        clear hnext
                        go_wp2
                        go_round
                        case rel => exact ⟨k + 1, by omega, by go_num, HN.out⟩
                        case measure => simp [intOf]; omega
                    · obtain rfl : k = n := by omega
                      have hkn : ¬ (k : Int) < (k : Int) := by omega
                      have hfin : (co : Int) ≤ ((cst fr l (min k m) : Nat) : Int) := by
                        have hmk : m = k := HMN.out
                        have hrr := HRI.out
                        have hss := hs.out
                        have h3 := HX.out.least (fun v => (gi l v).toNat) (fun v hv h0 => by have := hss v hv h0; omega) (Nat.le_trans (kr_some (n := k) (fun i hi => hrr i (by omega)) (fun i hi h0 => (hss i hi h0).1) k (Nat.le_refl _)) (by rw [← hmk, ← HSS.out]; omega))
                        have h4 : cst fr l k = coF fr (fun v => (gi l v).toNat) k := cst_co HFR.out (fun i hi => by have := hrr i (by omega); exact ⟨by omega, by omega⟩) k (Nat.le_refl _)
                        rw [hmk, Nat.min_self, h4]
                        have := HCO.out
                        omega
                      have HFIN := Lib.hid hfin
                      clear hfin
                      go_wp2_with fail
                      refine (RefCost_c A B k m ca cb fr l w5 ha5 hl5 (by omega) (by omega)).mono ?_
                      rintro e w7 ⟨rfl, q7, rfl⟩
                      have hfin := HFIN.out
                      generalize cst fr l (min k m) = z at *
                      go_wp2
                      go_ret
                      exact ⟨rfl, below_drewN hB5 q7⟩
                · have hmi : ((m : Int) != (n : Int)) = true := by simp; omega
                  go_wp2_with fail
                  refine HRR.out.mono ?_
                  rintro e w' ⟨rfl, rfl⟩
                  go_wp2_with fail
                  refine HS.out.mono ?_
                  rintro e w' ⟨rfl, rfl⟩
                  go_wp2
                  go_ret
                  exact ⟨rfl, hB5⟩
        · have HR := RefRight_c B m cb l w5 hl5
          cases hr : (RightB l m && decide (m ≤ 288)) with
          | false =>
            rw [hr] at HR
            have HRR := Lib.hid HR
            clear HR hr
            go_wp2_with fail
            refine HRR.out.mono ?_
            rintro e w' ⟨rfl, rfl⟩
            go_wp2
            go_ret
            exact ⟨rfl, hB5⟩
          | true =>
            have hrb : RightB l m = true := by
              cases hq : RightB l m with
              | true => rfl
              | false => rw [hq] at hr; cases hr
            have hri := RightB_all hrb
            have HS := Lib.hid (RefSum_c B m cb l w5 hl5 hri (by omega))
            rw [hr] at HR
            have HRR := Lib.hid HR
            have HRI := Lib.hid hri
            clear HR hr hrb hri
            obtain ⟨S, hS⟩ : ∃ S, S = kr l m := ⟨_, rfl⟩
            rw [← hS] at HS
            have HSS := Lib.hid hS
            clear hS
            by_cases hbig : (32768 : Int) < (S : Int)
            · go_wp2_with fail
              refine HRR.out.mono ?_
              rintro e w' ⟨rfl, rfl⟩
              go_wp2_with fail
              refine HS.out.mono ?_
              rintro e w' ⟨rfl, rfl⟩
              go_wp2
              go_ret
              exact ⟨rfl, hB5⟩
            · by_cases hmn : m = n
              · have hmi : ((m : Int) != (n : Int)) = false := by simp; omega
                have HMN := Lib.hid hmn
                clear hmn
                go_wp2_with fail
                refine HRR.out.mono ?_
                rintro e w' ⟨rfl, rfl⟩
                go_wp2_with fail
                refine HS.out.mono ?_
                rintro e w' ⟨rfl, rfl⟩
                go_wp2
                go_loop [68] (fun vi => ∃ k : Nat, k ≤ n ∧ vi = .int .i64 k ∧ Hid (∀ v, v < k → 0 < gi fr v → 1 ≤ gi l v ∧ gi l v ≤ (Lk : Int))) (fun vi => n - (intOf vi).toNat)
                case atStart => exact ⟨0, by omega, rfl, fun v hv => by omega⟩
                case round =>
                  obtain ⟨k, hk, rfl, hs⟩ := hrel
                  by_cases hlt : k < n
                  · obtain ⟨b1, o1, rfl, _, q1⟩ := ha5.at_ hlt
                    obtain ⟨b2, o2, rfl, _, q2⟩ := hl5.at_ (show k < m by have := HMN.out; omega)
                    have hkn : (k : Int) < n := by omega
                    have hkm : (k : Int) < m := by have := HMN.out; omega
                    have hnext : Hid ((¬ 0 < gi fr k ∨ (1 ≤ gi l k ∧ gi l k ≤ (Lk : Int))) → ∀ v, v < k + 1 → 0 < gi fr v → 1 ≤ gi l v ∧ gi l v ≤ (Lk : Int)) := by
                      intro h v hv h0
                      rcases (show v < k ∨ v = k by omega) with h3 | rfl
                      · exact hs.out v h3 h0
                      · exact h.resolve_left (fun h => h h0)
                    generalize gi fr k = f at *
                    generalize gi l k = y at *
                    by_cases hpos : 0 < f
                    · by_cases hy1 : y < 1
                      · clear hnext
                        go_wp2
                        go_ret
                        exact ⟨rfl, hB5⟩
                      · by_cases hyL : (Lk : Int) < y
                        · clear hnext
                          go_wp2
                          go_ret
                          exact ⟨rfl, hB5⟩
                        · have HN := Lib.hid (hnext.out (.inr ⟨by omega, by omega⟩))
                          clear hnext
                          go_wp2
                          go_round
                          case rel => exact ⟨k + 1, by omega, by go_num, HN.out⟩
                          case measure => simp [intOf]; omega
                    · have HN := Lib.hid (hnext.out (.inl hpos))
                      clear hnext
                      go_wp2
                      go_round
                      case rel => exact ⟨k + 1, by omega, by go_num, HN.out⟩
                      case measure => simp [intOf]; omega
                  · obtain rfl : k = n := by omega
                    have hkn : ¬ (k : Int) < (k : Int) := by omega
                    have hfin : (co : Int) ≤ ((cst fr l (min k m) : Nat) : Int) := by
                      have hmk : m = k := HMN.out
                      have hrr := HRI.out
                      have hss := hs.out
                      have h3 := HX.out.least (fun v => (gi l v).toNat) (fun v hv h0 => by have := hss v hv h0; omega) (Nat.le_trans (kr_some (n := k) (fun i hi => hrr i (by omega)) (fun i hi h0 => (hss i hi h0).1) k (Nat.le_refl _)) (by rw [← hmk, ← HSS.out]; omega))
                      have h4 : cst fr l k = coF fr (fun v => (gi l v).toNat) k := cst_co HFR.out (fun i hi => by have := hrr i (by omega); exact ⟨by omega, by omega⟩) k (Nat.le_refl _)
                      rw [hmk, Nat.min_self, h4]
                      have := HCO.out
                      omega
                    have HFIN := Lib.hid hfin
                    clear hfin
                    go_wp2_with fail
                    refine (RefCost_c A B k m ca cb fr l w5 ha5 hl5 (by omega) (by omega)).mono ?_
                    rintro e w7 ⟨rfl, q7, rfl⟩
                    have hfin := HFIN.out
                    generalize cst fr l (min k m) = z at *
                    go_wp2
                    go_ret
                    exact ⟨rfl, below_drewN hB5 q7⟩
              · have hmi : ((m : Int) != (n : Int)) = true := by simp; omega
                go_wp2_with fail
                refine HRR.out.mono ?_
                rintro e w' ⟨rfl, rfl⟩
                go_wp2_with fail
                refine HS.out.mono ?_
                rintro e w' ⟨rfl, rfl⟩
                go_wp2
                go_ret
                exact ⟨rfl, hB5⟩
      · have hnz : ((chkE fr n L : Int) != 0) = true := by simp; omega
        go_enter Try.func4, Try.ntmps4
        go_wp2_with fail
        refine (alive09_c w).mono ?_
        rintro e w1 ⟨rfl, hb1⟩
        have ha1 := ha.below hb1
        clear ha hno hb
        go_wp2_with fail
        refine (Check_c A n ca fr L w1 ha1).mono ?_
        rintro e w3 ⟨rfl, q, rfl⟩
        generalize chkE fr n L = x at *
        go_wp2
        go_ret
        exact ⟨rfl, below_drewN hb1 q⟩
end Go.Proofs.Ytfnjjeopojdnjaa
