/-
  LAW 17: StampDays. No conditions (but that the table lies as the program's text lays it).
-/
import Derived.Test.YtoodgbognpecjaaDoorLaw17
namespace Go.Proofs.YtoodgbognpecjaaDoor
open Go.RowKit
set_option maxRecDepth 1000000
set_option linter.unusedVariables false

/-- the days ahead of a month -/
def cumD (y : Int) : Nat → Nat
  | 0 => 0
  | k + 1 => cumD y k + dysN y ((k + 1 : Nat) : Int)
theorem cumD_le (y : Int) (k : Nat) : cumD y k ≤ 31 * k := by
  induction k with
  | zero => exact Nat.le_refl _
  | succ k ih => have := dysN_le y ((k + 1 : Nat) : Int); show cumD y k + _ ≤ _; omega
theorem cumD_year (y : Int) : cumD y 12 = if longP y then 366 else 365 := by
  have h2 : dysN y 2 = if longP y then 29 else 28 := by
    unfold dysN
    rw [if_pos (by omega)]
    by_cases h : longP y
    · rw [if_pos ⟨rfl, h⟩, if_pos h]
    · rw [if_neg (fun q => h q.2), if_neg h]; rfl
  have key : ∀ m : Int, (1 ≤ m ∧ m ≤ 12) → m ≠ 2 → dysN y m = md (m - 1).toNat := fun m h1 h3 => dys_is h1 h3
  have e : cumD y 12 = 0 + dysN y 1 + dysN y 2 + dysN y 3 + dysN y 4 + dysN y 5 + dysN y 6 + dysN y 7 + dysN y 8 + dysN y 9 + dysN y 10 + dysN y 11 + dysN y 12 := rfl
  rw [e, key 1 (by omega) (by omega), h2, key 3 (by omega) (by omega), key 4 (by omega) (by omega), key 5 (by omega) (by omega), key 6 (by omega) (by omega), key 7 (by omega) (by omega), key 8 (by omega) (by omega), key 9 (by omega) (by omega), key 10 (by omega) (by omega), key 11 (by omega) (by omega), key 12 (by omega) (by omega)]
  by_cases h : longP y
  · rw [if_pos h, if_pos h]; rfl
  · rw [if_neg h, if_neg h]; rfl
theorem long_in (y : Nat) (h : 1980 ≤ y ∧ y ≤ 2107) : longP (y : Int) ↔ y % 4 = 0 ∧ y ≠ 2100 := by unfold longP; omega
structure TbE (w W : World) : Prop where
  bel : Below w.heap.size w W
  tab : TabM W
theorem TbE.go {w W W' : World} (h : TbE w W) (hb : Below W.heap.size W W') : TbE w W' := ⟨h.bel.trans (hb.mono h.bel.size), h.tab.below hb⟩
theorem pack_day (y k j : Nat) (hy : 1980 ≤ y ∧ y ≤ 2107) (hj : 1 ≤ j ∧ j ≤ dysN y k) (hk : 1 ≤ k ∧ k ≤ 12) (W : World) (ht : TabM W) :
    Calls Tryd.prog 9 #[.agg #[.int .i64 y, .int .i64 k, .int .i64 j, .int .i64 0, .int .i64 0, .int .i64 0]] W fun e w' => e = .returned (.tuple #[.int .u16 (((y - 1980) * 512 + k * 32 + j : Nat) : Int), .int .u16 0, .int .i64 0]) ∧ Below W.heap.size W w' := by
  have hok : okP ⟨(y : Int), (k : Int), (j : Int), 0, 0, 0⟩ := ⟨by show 1980 ≤ (y : Int); omega, by show (y : Int) ≤ 2107; omega, by show 1 ≤ (j : Int); omega, by show (j : Int) ≤ (dysN (y : Int) (k : Int) : Int); omega, by show (0 : Int) ≤ 0; omega, by show (0 : Int) ≤ 23; omega, by show (0 : Int) ≤ 0; omega, by show (0 : Int) ≤ 59; omega, by show (0 : Int) ≤ 0; omega, by show (0 : Int) ≤ 58; omega, by show (0 : Int) % 2 = 0; omega⟩
  have h := Pack_yes ⟨(y : Int), (k : Int), (j : Int), 0, 0, 0⟩ hok (wfI y (by omega)) W ht
  have e1 : datN ⟨(y : Int), (k : Int), (j : Int), 0, 0, 0⟩ = (y - 1980) * 512 + k * 32 + j := by unfold datN; dsimp only; omega
  have e2 : timN ⟨(y : Int), (k : Int), (j : Int), 0, 0, 0⟩ = 0 := rfl
  rw [e1, e2] at h
  exact h
theorem pack_none (y k j : Nat) (hy : 1980 ≤ y ∧ y ≤ 2107) (hj : dysN y k < j) (W : World) (ht : TabM W) :
    Calls Tryd.prog 9 #[.agg #[.int .i64 y, .int .i64 k, .int .i64 j, .int .i64 0, .int .i64 0, .int .i64 0]] W fun e w' => e = .returned (.tuple #[.int .u16 0, .int .u16 0, .int .i64 41]) ∧ Below W.heap.size W w' := by
  have hok : ¬ okP ⟨(y : Int), (k : Int), (j : Int), 0, 0, 0⟩ := fun h => by
    obtain ⟨_, _, _, h4, _⟩ := h
    have h5 : (j : Int) ≤ (dysN (y : Int) (k : Int) : Int) := h4
    omega
  exact Pack_no ⟨(y : Int), (k : Int), (j : Int), 0, 0, 0⟩ hok (wfI y (by omega)) W ht
set_option maxHeartbeats 8000000 in
theorem walk_StampDays (w : World) (ht : TabM w) (year : Int) (hw : (Lit.int .i64 year).wf = true) :
    Calls Tryd.prog 5 #[.int .i64 year] w fun e w' => e = .returned (.bool true) ∧ Below w.heap.size w w' := by
  obtain ⟨z, hz, hand⟩ : ∃ z : Nat, z ≤ 127 ∧ bits .and .i64 year 127 = (z : Int) := by
    have h := andLow year 7 (by decide)
    refine ⟨(year % 2 ^ 7).toNat, by omega, ?_⟩
    rw [show (127 : Int) = ((2 ^ 7 - 1 : Nat) : Int) from rfl, h]
    omega
  obtain ⟨y, hy⟩ : ∃ y : Nat, y = 1980 + z := ⟨_, rfl⟩
  have hyi : 1980 + (z : Int) = (y : Int) := by omega
  have hyb : 1980 ≤ y ∧ y ≤ 2107 := by omega
  obtain ⟨hyb1, hyb2⟩ := hyb
  have HT := Lib.hid ht
  clear ht hw hy
  go_enter Tryd.func5, Tryd.ntmps5
  go_wp2_with fail
  refine (alive17_c w HT.out).mono ?_
  rintro e w1 ⟨rfl, hb⟩
  have E1 : Hid (TbE w w1) := ⟨hb, HT.out.below hb⟩
  clear hb HT
  go_wp2
  go_loopw [3, 4, 5] (fun dv lv mv wr => ∃ (k : Nat) (L : Int), 1 ≤ k ∧ k ≤ 13 ∧ mv = .int .i64 k ∧ dv = .int .i64 (cumD y (k - 1) : Nat) ∧ lv = .int .i64 L ∧ -1 ≤ L ∧ L < ((y : Int) - 1980) * 512 + k * 32 + 1 ∧ Hid (TbE w wr)) (fun _ _ mv _ => 13 - (intOf mv).toNat)
  case atStart => exact ⟨1, -1, by omega, by omega, rfl, rfl, rfl, by omega, by omega, E1⟩
  case round =>
    clear E1
    obtain ⟨k, L, hk1, hk2, rfl, rfl, rfl, hL1, hL2, hE⟩ := hrel
    have hcd := cumD_le y (k - 1)
    obtain ⟨c, hc⟩ : ∃ c, c = cumD y (k - 1) := ⟨_, rfl⟩
    rw [← hc] at hcd ⊢
    have HC := Lib.hid hc
    clear hc
    by_cases hlt : k ≤ 12
    · have hkn : (k : Int) ≤ 12 := by omega
      have HD := Lib.hid (fun W hW => Days_c (y : Int) (k : Int) (wfI y (by omega)) W hW)
      have hdn := dysN_le (y : Int) (k : Int)
      obtain ⟨D, hD⟩ : ∃ D, D = dysN (y : Int) (k : Int) := ⟨_, rfl⟩
      have HPD := Lib.hid (fun j (hj : 1 ≤ j ∧ j ≤ D) W hW => pack_day y k j ⟨hyb1, hyb2⟩ (by rw [← hD]; exact hj) ⟨hk1, hlt⟩ W hW)
      have HPN := Lib.hid (fun j (hj : D < j) W hW => pack_none y k j ⟨hyb1, hyb2⟩ (by rw [← hD]; exact hj) W hW)
      rw [← hD] at HD hdn
      have HDD := Lib.hid hD
      clear hD
      go_wp2
      go_loopw [3, 4, 6] (fun dv lv jv wr => ∃ (j : Nat) (M : Int), 1 ≤ j ∧ j ≤ D + 1 ∧ jv = .int .i64 j ∧ dv = .int .i64 ((c + (j - 1) : Nat) : Int) ∧ lv = .int .i64 M ∧ -1 ≤ M ∧ M < ((y : Int) - 1980) * 512 + k * 32 + j ∧ Hid (TbE w wr)) (fun _ _ jv _ => D + 1 - (intOf jv).toNat)
      case atStart => exact ⟨1, L, by omega, by omega, rfl, rfl, rfl, hL1, by omega, hE⟩
      case round =>
        clear hE
        obtain ⟨j, M, hj1, hj2, rfl, rfl, rfl, hM1, hM2, hF⟩ := hrel
        obtain ⟨v, hv⟩ : ∃ v, v = c + (j - 1) := ⟨_, rfl⟩
        have hvb : v ≤ 100000 := by omega
        rw [← hv]
        have HV := Lib.hid hv
        clear hv
        by_cases hjD : j ≤ D
        · have hjn : (j : Int) ≤ (D : Int) := by omega
          have HP := Lib.hid (fun W hW => HPD.out j ⟨hj1, hjD⟩ W hW)
          obtain ⟨N, hN⟩ : ∃ N, N = (y - 1980) * 512 + k * 32 + j := ⟨_, rfl⟩
          have hN1 : N < 65536 := by omega
          have hN2 : ¬ (N : Int) ≤ M := by omega
          have hN3 : (N : Int) < ((y : Int) - 1980) * 512 + k * 32 + (j + 1) := by omega
          rw [← hN] at HP
          have HN := Lib.hid hN
          clear hN
          go_wp2_with fail
          refine (HD.out _ hF.out.tab).mono ?_
          rintro e _ ⟨rfl, rfl⟩
          go_wp2_with fail
          refine (HP.out _ hF.out.tab).mono ?_
          rintro e w3 ⟨rfl, hb⟩
          have F3 := Lib.hid (hF.out.go hb)
          clear hb
          have hzz : ((0 : Int) != 0) = false := rfl
          go_wp2
          go_roundw
          case rel => exact ⟨j + 1, (N : Int), by omega, by omega, by go_num, by rw [show c + (j + 1 - 1) = v + 1 by have := HV.out; omega]; go_num, rfl, by omega, by omega, F3⟩
          case measure => simp [intOf]; omega
        · have hjn : ¬ (j : Int) ≤ (D : Int) := by omega
          have hjd : j = D + 1 := by omega
          have hD1 : (D : Int) + 1 = (j : Int) := by omega
          have HPM := Lib.hid (HPN.out j (by omega))
          have HJD := Lib.hid hjd
          clear hjd
          go_wp2_with fail
          refine (HD.out _ hF.out.tab).mono ?_
          rintro e w8 ⟨rfl, h8⟩
          subst h8
          go_wp2_with fail
          refine (HD.out _ hF.out.tab).mono ?_
          rintro e w9 ⟨rfl, h9⟩
          subst h9
          go_wp2_with fail
          refine (HPM.out _ hF.out.tab).mono ?_
          rintro e w3 ⟨rfl, hb⟩
          have F3 := Lib.hid (hF.out.go hb)
          clear hb
          go_wp2
          go_roundw
          case rel => exact ⟨k + 1, M, by omega, by omega, by go_num, by
            have e : cumD y (k + 1 - 1) = v := by
              have h1 := HV.out
              have h2 := HC.out
              have h3 := HDD.out
              have h4 := HJD.out
              obtain ⟨k0, rfl⟩ : ∃ k0, k = k0 + 1 := ⟨k - 1, by omega⟩
              rw [Nat.add_sub_cancel] at h2 ⊢
              show cumD y k0 + dysN y ((k0 + 1 : Nat) : Int) = v
              rw [← h3, ← h2]
              omega
            rw [e], rfl, by omega, by push_cast at hM2 ⊢; omega, F3⟩
          case measure => simp [intOf]; omega
    · have hkn : ¬ (k : Int) ≤ 12 := by omega
      obtain rfl : k = 13 := by omega
      have hyr := cumD_year (y : Int)
      have hc12 : c = cumD y 12 := HC.out
      rw [hyr] at hc12
      have hli := long_in y ⟨hyb1, hyb2⟩
      by_cases h4 : y % 4 = 0
      · by_cases h21 : y = 2100
        · rw [if_neg (fun q => (hli.1 q).2 h21)] at hc12
          have t4 : (y : Int) % 4 = 0 := by omega
          have t21 : ((y : Int) != 2100) = false := by rw [bne_eq_false_iff_eq]; omega
          have tc : ((c : Int) == 366) = false := by rw [beq_eq_false_iff_ne]; omega
          have tc2 : ((c : Int) == 365) = true := by rw [beq_iff_eq]; omega
          clear hyr hc12 hli h4 h21
          go_wp2
          go_ret
          exact ⟨rfl, hE.out.bel⟩
        · rw [if_pos (hli.2 ⟨h4, h21⟩)] at hc12
          have t4 : (y : Int) % 4 = 0 := by omega
          have t21 : ((y : Int) != 2100) = true := by rw [bne_iff_ne]; omega
          have tc : ((c : Int) == 366) = true := by rw [beq_iff_eq]; omega
          clear hyr hc12 hli h4 h21
          go_wp2
          go_ret
          exact ⟨rfl, hE.out.bel⟩
      · rw [if_neg (fun q => h4 (hli.1 q).1)] at hc12
        have t4 : ((y : Int) % 4 == 0) = false := by rw [beq_eq_false_iff_ne]; omega
        have tc : ((c : Int) == 366) = false := by rw [beq_eq_false_iff_ne]; omega
        have tc2 : ((c : Int) == 365) = true := by rw [beq_iff_eq]; omega
        clear hyr hc12 hli h4
        go_wp2
        go_ret
        exact ⟨rfl, hE.out.bel⟩
end Go.Proofs.YtoodgbognpecjaaDoor
