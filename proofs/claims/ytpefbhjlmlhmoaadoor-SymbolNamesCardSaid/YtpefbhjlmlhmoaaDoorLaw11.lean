/-
  LAW 11: SymbolNames, SymbolBack, SymbolRanges. No conditions (but that the tables lie as the program's text lays them).
-/
import Derived.Test.YtpefbhjlmlhmoaaDoorSymL
namespace Go.Proofs.YtpefbhjlmlhmoaaDoor
open Go.RowKit
set_option maxRecDepth 100000
set_option linter.unusedVariables false

set_option maxHeartbeats 4000000 in
theorem walk_SymbolNames (w : World) (ht : Tabs w) (n : Int) (hn : (Lit.int .i64 n).wf = true) (code : Int) (hc : (Lit.int .i64 code).wf = true) :
    Calls Tryd.prog 3 #[.int .i64 n, .int .i64 code] w fun e w' => e = .returned (.bool true) ∧ Below w.heap.size w w' := by
  have c1 := fun W h => Length_c n W h
  have r1 := fun W => RefLength_c n W
  have c2 := fun W h => Dist_c n W h
  have r2 := fun W => RefDist_c n W
  have c3 := fun W h => LengthBase_c code hc W h
  have r3 := fun W => RefLengthBase_c code W
  have c4 := fun W h => DistBase_c code hc W h
  have r4 := fun W => RefDistBase_c code W
  generalize lenC n = a1 at *
  generalize lenX n = a2 at *
  generalize lenV n = a3 at *
  generalize dstC n = a4 at *
  generalize dstX n = a5 at *
  generalize dstV n = a6 at *
  generalize lbI code = a7 at *
  generalize lxI code = a8 at *
  generalize lokI code = a9 at *
  generalize dbI code = b1 at *
  generalize dxI code = b2 at *
  generalize dokI code = b3 at *
  go_enter Tryd.func3, Tryd.ntmps3
  go_wp2_with fail
  refine (alive11_c w ht).mono ?_
  rintro e w1 ⟨rfl, hb1⟩
  have ht1 := ht.below hb1
  clear ht
  go_wp2_with fail
  refine (c1 w1 ht1).mono ?_
  rintro e w' ⟨rfl, rfl⟩
  go_wp2_with fail
  refine (r1 w1).mono ?_
  rintro e w' ⟨rfl, rfl⟩
  go_wp2_with fail
  refine (c2 w1 ht1).mono ?_
  rintro e w' ⟨rfl, rfl⟩
  go_wp2_with fail
  refine (r2 w1).mono ?_
  rintro e w' ⟨rfl, rfl⟩
  go_wp2_with fail
  refine (c3 w1 ht1).mono ?_
  rintro e w' ⟨rfl, rfl⟩
  go_wp2_with fail
  refine (r3 w1).mono ?_
  rintro e w' ⟨rfl, rfl⟩
  go_wp2_with fail
  refine (c4 w1 ht1).mono ?_
  rintro e w' ⟨rfl, rfl⟩
  go_wp2_with fail
  refine (r4 w1).mono ?_
  rintro e w' ⟨rfl, rfl⟩
  clear c1 c2 c3 c4 r1 r2 r3 r4
  go_wp2_with fail
  refine (Order_c w1).mono ?_
  rintro e w' ⟨rfl, rfl⟩
  go_wp2_with fail
  refine (RefOrder_c (ordV w1)).mono ?_
  rintro e w' ⟨rfl, rfl⟩
  have hb2 := ordV_below w1
  have hr1 := ordV_row w1
  have hb3 := ordV_below (ordV w1)
  have hr2 := ordV_row (ordV w1)
  have hr3 := hr1.below hb3
  generalize ordV (ordV w1) = w3 at *
  generalize ordV w1 = w2 at *
  go_wp2_with fail
  refine (SameI_c _ _ 19 19 19 19 _ _ w3 hr3 hr2).mono ?_
  rintro e w4 ⟨rfl, q, rfl⟩
  rw [decide_eq_true (rfl : ordL = ordL)]
  go_wp2
  go_ret
  exact ⟨rfl, below_drewN (hb1.trans ((hb2.trans (hb3.mono hb2.size)).mono hb1.size)) q⟩

/-! ### What was found has the base, the bits, and the next -/
theorem fndL_lt (n k : Nat) : fndL n k ≤ k := by
  induction k with
  | zero => exact Nat.le_refl _
  | succ k ih =>
    show (if n < lb (k + 1) then fndL n k else k + 1) ≤ k + 1
    split <;> omega
theorem fndD_lt (n k : Nat) : fndD n k ≤ k := by
  induction k with
  | zero => exact Nat.le_refl _
  | succ k ih =>
    show (if n < db (k + 1) then fndD n k else k + 1) ≤ k + 1
    split <;> omega
theorem fndL_le (n k : Nat) (hn : 3 ≤ n) : lb (fndL n k) ≤ n := by
  induction k with
  | zero => exact hn
  | succ k ih =>
    show lb (if n < lb (k + 1) then fndL n k else k + 1) ≤ n
    split
    · exact ih
    · omega
theorem fndD_le (n k : Nat) (hn : 1 ≤ n) : db (fndD n k) ≤ n := by
  induction k with
  | zero => exact hn
  | succ k ih =>
    show db (if n < db (k + 1) then fndD n k else k + 1) ≤ n
    split
    · exact ih
    · omega
theorem fndL_next (n k : Nat) (h : fndL n k < k) : n < lb (fndL n k + 1) := by
  induction k with
  | zero => omega
  | succ k ih =>
    have e : fndL n (k + 1) = if n < lb (k + 1) then fndL n k else k + 1 := rfl
    rw [e] at h ⊢
    split at h
    · rename_i h1
      rw [if_pos h1]
      have h3 := fndL_lt n k
      rcases Nat.lt_or_ge (fndL n k) k with h2 | h2
      · exact ih h2
      · have : fndL n k = k := by omega
        rw [this]; exact h1
    · omega
theorem fndD_next (n k : Nat) (h : fndD n k < k) : n < db (fndD n k + 1) := by
  induction k with
  | zero => omega
  | succ k ih =>
    have e : fndD n (k + 1) = if n < db (k + 1) then fndD n k else k + 1 := rfl
    rw [e] at h ⊢
    split at h
    · rename_i h1
      rw [if_pos h1]
      have h3 := fndD_lt n k
      rcases Nat.lt_or_ge (fndD n k) k with h2 | h2
      · exact ih h2
      · have : fndD n k = k := by omega
        rw [this]; exact h1
    · omega
/-- of all lengths: the bases, the bits, the next code -/
theorem lenAll : allLt 259 (fun n => Nat.blt n 3 || (Nat.ble (lb (fndL n 28)) n && Nat.blt (n - lb (fndL n 28)) (2 ^ lx (fndL n 28)) && Nat.ble (fndL n 28) (fndL (min (n + 1) 258) 28) && Nat.ble (fndL (min (n + 1) 258) 28) (fndL n 28 + 1))) = true := by decide +kernel
theorem len_all {n : Nat} (h : 3 ≤ n ∧ n ≤ 258) : lb (fndL n 28) ≤ n ∧ n - lb (fndL n 28) < 2 ^ lx (fndL n 28) ∧ fndL n 28 ≤ fndL (min (n + 1) 258) 28 ∧ fndL (min (n + 1) 258) 28 ≤ fndL n 28 + 1 := by
  have h1 := allLt_at lenAll (show n < 259 by omega)
  simp only [Bool.or_eq_true, Bool.and_eq_true, Nat.blt_eq, Nat.ble_eq] at h1
  omega
theorem db_mono {j k : Nat} (h : j ≤ k) (hk : k < 30) : db j ≤ db k := by
  obtain ⟨d, rfl⟩ : ∃ d, k = j + d := ⟨k - j, by omega⟩
  induction d with
  | zero => exact Nat.le_refl _
  | succ d ih =>
    have := ih (by omega) (by omega)
    have h2 := db_next (k := j + d) (by omega)
    have h3 : 0 < 2 ^ dx (j + d) := Nat.pow_pos (by decide)
    show db j ≤ db (j + d + 1)
    omega
theorem fndD_is {n k : Nat} (hk : k < 30) (h1 : db k ≤ n) (h2 : k < 29 → n < db (k + 1)) (hn : 1 ≤ n) : fndD n 29 = k := by
  have a1 := fndD_le n 29 hn
  have a2 := fndD_lt n 29
  rcases Nat.lt_trichotomy (fndD n 29) k with h | h | h
  · have := fndD_next n 29 (by omega)
    have := db_mono (show fndD n 29 + 1 ≤ k by omega) hk
    omega
  · exact h
  · have := h2 (by omega)
    have := db_mono (show k + 1 ≤ fndD n 29 by omega) (by omega)
    omega
theorem dst_all {n : Nat} (h : 1 ≤ n ∧ n ≤ 32768) : db (fndD n 29) ≤ n ∧ n - db (fndD n 29) < 2 ^ dx (fndD n 29) ∧ fndD n 29 ≤ fndD (min (n + 1) 32768) 29 ∧ fndD (min (n + 1) 32768) 29 ≤ fndD n 29 + 1 := by
  have a1 := fndD_le n 29 h.1
  have a2 := fndD_lt n 29
  have a3 : fndD n 29 < 29 → n < db (fndD n 29 + 1) := fndD_next n 29
  generalize fndD n 29 = k at *
  have hlast : db 29 = 24577 := rfl
  have hbit : dx 29 = 13 := rfl
  have hup : n < db k + 2 ^ dx k := by
    rcases Nat.lt_or_ge k 29 with h1 | h1
    · have := a3 h1
      rw [db_next h1] at this
      exact this
    · obtain rfl : k = 29 := by omega
      rw [hlast, hbit]
      have : (2 : Nat) ^ 13 = 8192 := rfl
      omega
  refine ⟨a1, by omega, ?_⟩
  rcases Nat.lt_or_ge n 32768 with h32 | h32
  · rw [show min (n + 1) 32768 = n + 1 by omega]
    by_cases h1 : k < 29 ∧ n + 1 = db (k + 1)
    · have h2 : fndD (n + 1) 29 = k + 1 := fndD_is (by omega) (by omega) (fun h3 => by
        have := db_next h3
        have : 0 < 2 ^ dx (k + 1) := Nat.pow_pos (by decide)
        omega) (by omega)
      omega
    · have h2 : fndD (n + 1) 29 = k := fndD_is (by omega) (by omega) (fun h3 => by have := a3 h3; omega) (by omega)
      omega
  · obtain rfl : n = 32768 := by omega
    have e : fndD (min (32768 + 1) 32768) 29 = 29 := rfl
    rw [e]
    have hk : k = 29 := by
      rcases Nat.lt_or_ge k 29 with h1 | h1
      · have := a3 h1
        have := db_mono (show k + 1 ≤ 29 by omega) (by omega)
        omega
      · omega
    omega

theorem pow_shl (x p : Nat) (hx : x ≤ 13) (hp : p = 2 ^ x) : (2 : Int) ^ x = (p : Int) ∧ 1 ≤ p ∧ p ≤ 8192 := by
  have h1 : (2 : Nat) ^ x ≤ 2 ^ 13 := Nat.pow_le_pow_right (by decide) hx
  have h2 : 0 < 2 ^ x := Nat.pow_pos (by decide)
  have h3 : (2 : Nat) ^ 13 = 8192 := rfl
  subst hp
  exact ⟨by push_cast; rfl, by omega, by omega⟩
set_option maxRecDepth 1000000 in
set_option maxHeartbeats 4000000 in
theorem walk_SymbolBack (w : World) (ht : Tabs w) (m0 : Int) (_hm : (Lit.int .i64 m0).wf = true) (n0 : Int) (_hn : (Lit.int .i64 n0).wf = true) :
    Calls Tryd.prog 4 #[.int .i64 m0, .int .i64 n0] w fun e w' => e = .returned (.bool true) ∧ Below w.heap.size w w' := by
  have g1 := heldI_in m0 3 258 (by decide)
  have g2 := heldI_in n0 1 32768 (by decide)
  have H1 := HeldI_c m0 3 258
  have H2 := HeldI_c n0 1 32768
  obtain ⟨m, hm⟩ : ∃ m : Nat, heldI m0 3 258 = (m : Int) := ⟨(heldI m0 3 258).toNat, by omega⟩
  obtain ⟨n, hn⟩ : ∃ n : Nat, heldI n0 1 32768 = (n : Int) := ⟨(heldI n0 1 32768).toNat, by omega⟩
  rw [hm] at g1 H1
  rw [hn] at g2 H2
  clear hm hn
  have hm : 3 ≤ m ∧ m ≤ 258 := by omega
  have hn : 1 ≤ n ∧ n ≤ 32768 := by omega
  obtain ⟨q1, q2, q3, q4⟩ := len_all hm
  obtain ⟨p1, p2, p3, p4⟩ := dst_all hn
  have k1 := fndL_lt m 28
  have k2 := fndD_lt n 29
  obtain ⟨a1, a2, a3⟩ := len_at hm rfl
  obtain ⟨b1, b2, b3⟩ := dst_at hn rfl
  have hm' : 3 ≤ min (m + 1) 258 ∧ min (m + 1) 258 ≤ 258 := by omega
  have hn' : 1 ≤ min (n + 1) 32768 ∧ min (n + 1) 32768 ≤ 32768 := by omega
  obtain ⟨c1, -, -⟩ := len_at hm' rfl
  obtain ⟨d1, -, -⟩ := dst_at hn' rfl
  obtain ⟨l1, l2, l3⟩ := lok_at (fndL m 28) (by omega)
  obtain ⟨s1, s2, s3⟩ := dok_at (fndD n 29) (by omega)
  have L1 := fun W h => Length_c (m : Int) W h
  have L2 := fun W h => Dist_c (n : Int) W h
  have L3 := fun W h => LengthBase_c ((257 + fndL m 28 : Nat) : Int) (wf_nat _ (by omega)) W h
  have L4 := fun W h => DistBase_c ((fndD n 29 : Nat) : Int) (wf_nat _ (by omega)) W h
  have L5 := fun W h => Length_c ((min (m + 1) 258 : Nat) : Int) W h
  have L6 := fun W h => Dist_c ((min (n + 1) 32768 : Nat) : Int) W h
  rw [a1, a2, a3] at L1
  rw [b1, b2, b3] at L2
  rw [l1, l2, l3] at L3
  rw [s1, s2, s3] at L4
  rw [c1] at L5
  rw [d1] at L6
  have hx := lx_lt (show fndL m 28 < 29 by omega)
  have hy := dx_lt (show fndD n 29 < 30 by omega)
  have mm : min ((m : Int) + 1) 258 = ((min (m + 1) 258 : Nat) : Int) := by omega
  have nn : min ((n : Int) + 1) 32768 = ((min (n + 1) 32768 : Nat) : Int) := by omega
  generalize min (m + 1) 258 = m1 at *
  generalize min (n + 1) 32768 = n1 at *
  generalize lenX (m1 : Int) = z1 at *
  generalize lenV (m1 : Int) = z2 at *
  generalize dstX (n1 : Int) = z3 at *
  generalize dstV (n1 : Int) = z4 at *
  clear a1 a2 a3 b1 b2 b3 l1 l2 l3 s1 s2 s3 c1 d1
  generalize fndL m 28 = c at *
  generalize fndD n 29 = d at *
  generalize fndL m1 28 = c' at *
  generalize fndD n1 29 = d' at *
  generalize lb c = x at *
  generalize db d = y at *
  generalize lx c = bx at *
  generalize dx d = by_ at *
  obtain ⟨P, hP⟩ : ∃ P, P = 2 ^ bx := ⟨_, rfl⟩
  obtain ⟨Q, hQ⟩ : ∃ Q, Q = 2 ^ by_ := ⟨_, rfl⟩
  obtain ⟨e1, e2, e3⟩ := pow_shl bx P (by omega) hP
  obtain ⟨f1, f2, f3⟩ := pow_shl by_ Q (by omega) hQ
  rw [← hP] at q2
  rw [← hQ] at p2
  obtain ⟨v, rfl⟩ : ∃ v, m = x + v := ⟨m - x, by omega⟩
  obtain ⟨u, rfl⟩ : ∃ u, n = y + u := ⟨n - y, by omega⟩
  rw [Nat.add_sub_cancel_left] at q2 L1
  rw [Nat.add_sub_cancel_left] at p2 L2
  generalize hC : 257 + c = C at *
  generalize hC' : 257 + c' = C' at *
  generalize hM : x + v = M at *
  generalize hN : y + u = N at *
  have t1 : (x : Int) + (v : Int) = (M : Int) := by omega
  have t2 : (y : Int) + (u : Int) = (N : Int) := by omega
  have t3 : ¬ (P : Int) ≤ (v : Int) := by omega
  have t4 : ¬ (Q : Int) ≤ (u : Int) := by omega
  have t5 : (C : Int) ≤ (C' : Int) := by omega
  have t6 : (C' : Int) ≤ (C : Int) + 1 := by omega
  have t7 : (d : Int) ≤ (d' : Int) := by omega
  have t8 : (d' : Int) ≤ (d : Int) + 1 := by omega
  have t9 : C < 300 := by omega
  have t11 : M ≤ 258 := by omega
  have t12 : N ≤ 32768 := by omega
  have t10 : d < 30 := by omega
  clear hM hN hC hC' hP hQ q1 q2 q3 q4 p1 p2 p3 p4 k1 k2 g1 g2 hm hn hm' hn' _hm _hn
  go_enter Tryd.func4, Tryd.ntmps4
  go_wp2_with fail
  refine (alive11_c w ht).mono ?_
  rintro e w1 ⟨rfl, hb1⟩
  have ht1 := ht.below hb1
  clear ht
  go_wp2_with fail
  refine (H1 w1).mono ?_
  rintro e w' ⟨rfl, rfl⟩
  go_wp2_with fail
  refine (H2 w1).mono ?_
  rintro e w' ⟨rfl, rfl⟩
  go_wp2_with fail
  refine (L1 w1 ht1).mono ?_
  rintro e w' ⟨rfl, rfl⟩
  go_wp2_with fail
  refine (L3 w1 ht1).mono ?_
  rintro e w' ⟨rfl, rfl⟩
  go_wp2_with fail
  refine (L2 w1 ht1).mono ?_
  rintro e w' ⟨rfl, rfl⟩
  go_wp2_with fail
  refine (L4 w1 ht1).mono ?_
  rintro e w' ⟨rfl, rfl⟩
  go_wp2_with fail
  refine (L5 w1 ht1).mono ?_
  rintro e w' ⟨rfl, rfl⟩
  go_wp2_with fail
  refine (L6 w1 ht1).mono ?_
  rintro e w' ⟨rfl, rfl⟩
  go_wp2
  go_ret
  exact ⟨rfl, hb1⟩

/-! ### All numbers of a code -/
theorem mod_low (a : Int) (p : Nat) (hp : 1 ≤ p) : ∃ r : Nat, a % (p : Int) = (r : Int) ∧ r < p := by
  refine ⟨(a % (p : Int)).toNat, ?_, ?_⟩
  · have := Int.emod_nonneg a (show (p : Int) ≠ 0 by omega)
    omega
  · have := Int.emod_lt_of_pos a (show (0 : Int) < p by omega)
    have := Int.emod_nonneg a (show (p : Int) ≠ 0 by omega)
    omega
theorem lenRange : allLt 28 (fun k => allLt 32 fun r => decide (¬ r < 2 ^ lx k ∨ lb k + r = 258 ∨ (lb k + r < 258 ∧ fndL (lb k + r) 28 = k))) = true := by decide +kernel
theorem len_range {k r : Nat} (hk : k < 28) (hr : r < 2 ^ lx k) : lb k + r = 258 ∨ (lb k + r < 258 ∧ fndL (lb k + r) 28 = k) := by
  have h5 : (2 : Nat) ^ lx k ≤ 2 ^ 5 := Nat.pow_le_pow_right (by decide) (by have := lx_lt (show k < 29 by omega); omega)
  have h6 : (2 : Nat) ^ 5 = 32 := rfl
  have h1 := allLt_at (allLt_at lenRange hk) (show r < 32 by omega)
  rw [decide_eq_true_eq] at h1
  omega
theorem lenLess : allLt 29 (fun k => decide (k = 0 ∨ fndL (lb k - 1) 28 < k)) = true := by decide +kernel
theorem len_less {k : Nat} (hk : k < 29) : k = 0 ∨ fndL (lb k - 1) 28 < k := by
  have h1 := allLt_at lenLess hk
  rwa [decide_eq_true_eq] at h1
theorem dst_less {k : Nat} (hk : k < 30) (h0 : 0 < k) : fndD (db k - 1) 29 < k := by
  have h1 := db_mono (show 1 ≤ k by omega) hk
  have h2 : db 1 = 2 := rfl
  have h3 := fndD_le (db k - 1) 29 (by omega)
  have h4 := fndD_lt (db k - 1) 29
  rcases Nat.lt_or_ge (fndD (db k - 1) 29) k with h | h
  · exact h
  · have := db_mono h (by omega)
    omega
theorem db_up {k : Nat} (hk : k < 30) : db k + 2 ^ dx k ≤ 32769 := by
  have : ∀ k, k < 30 → db k + 2 ^ dx k ≤ 32769 := by decide +kernel
  exact this k hk
theorem dst_range {k r : Nat} (hk : k < 30) (hr : r < 2 ^ dx k) : fndD (db k + r) 29 = k :=
  fndD_is hk (by omega) (fun h => by have := db_next h; omega) (by have := db_pos hk; omega)
theorem tmod_nat (a p : Nat) : (a : Int).tmod (p : Int) = (a : Int) % (p : Int) := Int.tmod_eq_emod_of_nonneg (by omega)
/-- what stands between the base of a length's code and the walk -/
theorem len_back {k : Nat} (hk : k < 29) : lenC ((lb k : Nat) - 1 : Int) < 257 + k := by
  have h3 := lb_pos hk
  have h4 := lb_lt hk
  rw [show ((lb k : Nat) - 1 : Int) = ((lb k - 1 : Nat) : Int) by omega]
  rcases len_less hk with rfl | h
  · have : lenC ((lb 0 - 1 : Nat) : Int) = 0 := by decide +kernel
    omega
  · by_cases h5 : 3 ≤ lb k - 1
    · rw [(len_at (show 3 ≤ lb k - 1 ∧ lb k - 1 ≤ 258 by omega) rfl).1]
      omega
    · rw [(len_no (show ¬ (3 ≤ ((lb k - 1 : Nat) : Int) ∧ ((lb k - 1 : Nat) : Int) ≤ 258) by omega)).1]
      omega
set_option maxRecDepth 1000000 in
set_option maxHeartbeats 8000000 in
theorem ranges_len (w : World) (ht : Tabs w) (k : Nat) (hk : k < 29) (more : Int) :
    Calls Tryd.prog 5 #[.int .i64 ((257 + k : Nat) : Int), .int .i64 more] w fun e w' => e = .returned (.bool true) ∧ Below w.heap.size w w' := by
  have hx := lx_lt hk
  obtain ⟨P, hP⟩ : ∃ P, P = 2 ^ lx k := ⟨_, rfl⟩
  obtain ⟨e1, e2, e3⟩ := pow_shl (lx k) P (by omega) hP
  have ha : bits .and .i64 more 31 = more % 32 := andLow more 5 (by decide)
  obtain ⟨a, ha2, ha3⟩ := mod_low more 32 (by decide)
  rw [show ((32 : Nat) : Int) = 32 from rfl] at ha2
  rw [ha2] at ha
  obtain ⟨r, hr2, hr3⟩ := mod_low (a : Int) P e2
  have hr4 : (a : Int).tmod (P : Int) = (r : Int) := by rw [tmod_nat, hr2]
  have hR : lb k + r = 258 ∨ (lb k + r < 258 ∧ fndL (lb k + r) 28 = k) := by
    by_cases h28 : k = 28
    · left
      subst h28
      have h1 : lb 28 = 258 := rfl
      have h2 : P = 1 := hP
      omega
    · exact len_range (by omega) (by rw [← hP]; exact hr3)
  have hlb := lb_pos hk
  have hlb2 := lb_lt hk
  obtain ⟨l1, l2, l3⟩ := lok_at k hk
  have hback := len_back hk
  have L0 := fun W h => LengthBase_c ((257 + k : Nat) : Int) (wf_nat _ (by omega)) W h
  have L1 := fun W h => Length_c ((lb k + r : Nat) : Int) W h
  have L2 := fun W h => Length_c ((lb k : Nat) - 1 : Int) W h
  have L3 := fun W h => DistBase_c ((257 + k : Nat) : Int) (wf_nat _ (by omega)) W h
  have hno := dok_no (show ¬ (0 ≤ ((257 + k : Nat) : Int) ∧ ((257 + k : Nat) : Int) ≤ 29) by omega)
  rw [l1, l2, l3] at L0
  rw [hno.1, hno.2.1, hno.2.2] at L3
  generalize lenC ((lb k : Nat) - 1 : Int) = z1 at *
  generalize lenX ((lb k : Nat) - 1 : Int) = z2 at *
  generalize lenV ((lb k : Nat) - 1 : Int) = z3 at *
  rcases hR with hR | ⟨hR, hf⟩
  · rw [hR] at L1
    rw [show lenC ((258 : Nat) : Int) = 285 by decide +kernel, show lenX ((258 : Nat) : Int) = 0 by decide +kernel, show lenV ((258 : Nat) : Int) = 0 by decide +kernel] at L1
    generalize lb k = x at *
    generalize lx k = y at *
    generalize hC : 257 + k = C at *
    have t1 : (x : Int) + (r : Int) = 258 := by omega
    have t2 : ¬ (C : Int) ≤ (z1 : Int) := by omega
    have t3 : ((x : Int) - 1) = ((x - 1 : Nat) : Int) := by omega
    rw [t3] at L2
    generalize x - 1 = x1 at *
    clear hC hP hno l1 l2 l3 hback hr3 ha2 ha3 hR hk
    go_enter Tryd.func5, Tryd.ntmps5
    go_wp2_with fail
    refine (alive11_c w ht).mono ?_
    rintro e w1 ⟨rfl, hb1⟩
    have ht1 := ht.below hb1
    clear ht
    go_wp2_with fail
    refine (L0 w1 ht1).mono ?_
    rintro e w' ⟨rfl, rfl⟩
    go_wp2_with fail
    refine (L1 w1 ht1).mono ?_
    rintro e w' ⟨rfl, rfl⟩
    go_wp2_with fail
    refine (L2 w1 ht1).mono ?_
    rintro e w' ⟨rfl, rfl⟩
    go_wp2_with fail
    refine (L3 w1 ht1).mono ?_
    rintro e w' ⟨rfl, rfl⟩
    go_wp2
    go_ret
    exact ⟨rfl, hb1⟩
  · obtain ⟨b1, b2, b3⟩ := len_at (show 3 ≤ lb k + r ∧ lb k + r ≤ 258 by omega) hf
    rw [b1, b2, b3, Nat.add_sub_cancel_left] at L1
    generalize lb k = x at *
    generalize lx k = y at *
    generalize hC : 257 + k = C at *
    generalize hN : x + r = N at *
    have t1 : (x : Int) + (r : Int) = (N : Int) := by omega
    have t2 : ¬ (C : Int) ≤ (z1 : Int) := by omega
    have t3 : ((x : Int) - 1) = ((x - 1 : Nat) : Int) := by omega
    have t4 : ((N : Int) == 258) = false := by simp; omega
    have t5 : ((N : Int) != 258) = true := by simp; omega
    have t6 : (N : Int) - (x : Int) = (r : Int) := by omega
    have t7 : C < 300 := by omega
    rw [t3] at L2
    generalize x - 1 = x1 at *
    clear hC hN hP hno l1 l2 l3 hback hr3 ha2 ha3 hk b1 b2 b3 hf
    go_enter Tryd.func5, Tryd.ntmps5
    go_wp2_with fail
    refine (alive11_c w ht).mono ?_
    rintro e w1 ⟨rfl, hb1⟩
    have ht1 := ht.below hb1
    clear ht
    go_wp2_with fail
    refine (L0 w1 ht1).mono ?_
    rintro e w' ⟨rfl, rfl⟩
    go_wp2_with fail
    refine (L1 w1 ht1).mono ?_
    rintro e w' ⟨rfl, rfl⟩
    go_wp2_with fail
    refine (L2 w1 ht1).mono ?_
    rintro e w' ⟨rfl, rfl⟩
    go_wp2_with fail
    refine (L3 w1 ht1).mono ?_
    rintro e w' ⟨rfl, rfl⟩
    go_wp2
    go_ret
    exact ⟨rfl, hb1⟩
theorem dst_back {k : Nat} (hk : k < 30) (h0 : 0 < k) : dstC ((db k : Nat) - 1 : Int) < k := by
  have h3 := db_pos hk
  have h4 := db_lt hk
  have h5 := db_mono (show 1 ≤ k by omega) hk
  have h6 : db 1 = 2 := rfl
  rw [show ((db k : Nat) - 1 : Int) = ((db k - 1 : Nat) : Int) by omega, (dst_at (show 1 ≤ db k - 1 ∧ db k - 1 ≤ 32768 by omega) rfl).1]
  exact dst_less hk h0
set_option maxRecDepth 1000000 in
set_option maxHeartbeats 8000000 in
theorem ranges_dist (w : World) (ht : Tabs w) (k : Nat) (hk : k < 30) (more : Int) :
    Calls Tryd.prog 5 #[.int .i64 (k : Int), .int .i64 more] w fun e w' => e = .returned (.bool true) ∧ Below w.heap.size w w' := by
  have hx := dx_lt hk
  obtain ⟨P, hP⟩ : ∃ P, P = 2 ^ dx k := ⟨_, rfl⟩
  obtain ⟨e1, e2, e3⟩ := pow_shl (dx k) P (by omega) hP
  have ha : bits .and .i64 more 8191 = more % 8192 := andLow more 13 (by decide)
  obtain ⟨a, ha2, ha3⟩ := mod_low more 8192 (by decide)
  rw [show ((8192 : Nat) : Int) = 8192 from rfl] at ha2
  rw [ha2] at ha
  obtain ⟨r, hr2, hr3⟩ := mod_low (a : Int) P e2
  have hr4 : (a : Int).tmod (P : Int) = (r : Int) := by rw [tmod_nat, hr2]
  have hf := dst_range hk (show r < 2 ^ dx k by rw [← hP]; exact hr3)
  have hlb := db_pos hk
  have hlb2 := db_lt hk
  have hup := db_up hk
  rw [← hP] at hup
  obtain ⟨l1, l2, l3⟩ := dok_at k hk
  have L0 := fun W h => LengthBase_c (k : Int) (wf_nat _ (by omega)) W h
  have L1 := fun W h => Dist_c ((db k + r : Nat) : Int) W h
  have L2 := fun W h => Dist_c ((db k : Nat) - 1 : Int) W h
  have L3 := fun W h => DistBase_c (k : Int) (wf_nat _ (by omega)) W h
  have hno := lok_no (show ¬ (257 ≤ (k : Int) ∧ (k : Int) ≤ 285) by omega)
  rw [l1, l2, l3] at L3
  rw [hno.1, hno.2.1, hno.2.2] at L0
  obtain ⟨b1, b2, b3⟩ := dst_at (show 1 ≤ db k + r ∧ db k + r ≤ 32768 by omega) hf
  rw [b1, b2, b3, Nat.add_sub_cancel_left] at L1
  have hback : (0 : Int) < (k : Int) → ¬ (k : Int) ≤ (dstC ((db k : Nat) - 1 : Int) : Int) := fun h => by
    have := dst_back hk (by omega)
    omega
  generalize dstC ((db k : Nat) - 1 : Int) = z1 at *
  generalize dstX ((db k : Nat) - 1 : Int) = z2 at *
  generalize dstV ((db k : Nat) - 1 : Int) = z3 at *
  generalize db k = x at *
  generalize dx k = y at *
  generalize hN : x + r = N at *
  have t1 : (x : Int) + (r : Int) = (N : Int) := by omega
  have t3 : ((x : Int) - 1) = ((x - 1 : Nat) : Int) := by omega
  have t6 : (N : Int) - (x : Int) = (r : Int) := by omega
  have t8 : N ≤ 32768 := by omega
  rw [t3] at L2
  generalize x - 1 = x1 at *
  clear hN hP hno l1 l2 l3 hr3 ha2 ha3 b1 b2 b3 hf hup
  by_cases h0 : (0 : Int) < (k : Int)
  · have t2 := hback h0
    clear hback
    go_enter Tryd.func5, Tryd.ntmps5
    go_wp2_with fail
    refine (alive11_c w ht).mono ?_
    rintro e w1 ⟨rfl, hb1⟩
    have ht1 := ht.below hb1
    clear ht
    go_wp2_with fail
    refine (L0 w1 ht1).mono ?_
    rintro e w' ⟨rfl, rfl⟩
    go_wp2_with fail
    refine (L3 w1 ht1).mono ?_
    rintro e w' ⟨rfl, rfl⟩
    go_wp2_with fail
    refine (L1 w1 ht1).mono ?_
    rintro e w' ⟨rfl, rfl⟩
    go_wp2_with fail
    refine (L2 w1 ht1).mono ?_
    rintro e w' ⟨rfl, rfl⟩
    go_wp2
    go_ret
    exact ⟨rfl, hb1⟩
  · clear hback
    go_enter Tryd.func5, Tryd.ntmps5
    go_wp2_with fail
    refine (alive11_c w ht).mono ?_
    rintro e w1 ⟨rfl, hb1⟩
    have ht1 := ht.below hb1
    clear ht
    go_wp2_with fail
    refine (L0 w1 ht1).mono ?_
    rintro e w' ⟨rfl, rfl⟩
    go_wp2_with fail
    refine (L3 w1 ht1).mono ?_
    rintro e w' ⟨rfl, rfl⟩
    go_wp2_with fail
    refine (L1 w1 ht1).mono ?_
    rintro e w' ⟨rfl, rfl⟩
    go_wp2_with fail
    refine (L2 w1 ht1).mono ?_
    rintro e w' ⟨rfl, rfl⟩
    go_wp2
    go_ret
    exact ⟨rfl, hb1⟩
set_option maxRecDepth 1000000 in
set_option maxHeartbeats 8000000 in
theorem walk_SymbolRanges (w : World) (ht : Tabs w) (code : Int) (hc : (Lit.int .i64 code).wf = true) (more : Int) (hm : (Lit.int .i64 more).wf = true) :
    Calls Tryd.prog 5 #[.int .i64 code, .int .i64 more] w fun e w' => e = .returned (.bool true) ∧ Below w.heap.size w w' := by
  by_cases h1 : 257 ≤ code ∧ code ≤ 285
  · obtain ⟨k, rfl⟩ : ∃ k : Nat, code = ((257 + k : Nat) : Int) := ⟨(code - 257).toNat, by omega⟩
    exact ranges_len w ht k (by omega) more
  · by_cases h2 : 0 ≤ code ∧ code ≤ 29
    · obtain ⟨k, rfl⟩ : ∃ k : Nat, code = (k : Int) := ⟨code.toNat, by omega⟩
      exact ranges_dist w ht k (by omega) more
    · have L0 := fun W h => LengthBase_c code hc W h
      have L3 := fun W h => DistBase_c code hc W h
      have n1 := lok_no h1
      have n2 := dok_no h2
      rw [n1.1, n1.2.1, n1.2.2] at L0
      rw [n2.1, n2.2.1, n2.2.2] at L3
      clear n1 n2 h1 h2 hc hm
      go_enter Tryd.func5, Tryd.ntmps5
      go_wp2_with fail
      refine (alive11_c w ht).mono ?_
      rintro e w1 ⟨rfl, hb1⟩
      have ht1 := ht.below hb1
      clear ht
      go_wp2_with fail
      refine (L0 w1 ht1).mono ?_
      rintro e w' ⟨rfl, rfl⟩
      go_wp2_with fail
      refine (L3 w1 ht1).mono ?_
      rintro e w' ⟨rfl, rfl⟩
      go_wp2
      go_ret
      exact ⟨rfl, hb1⟩
end Go.Proofs.YtpefbhjlmlhmoaaDoor
