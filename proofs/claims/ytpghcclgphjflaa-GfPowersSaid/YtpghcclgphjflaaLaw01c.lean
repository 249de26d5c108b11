/-
  LAW 01's WALKS OVER BYTES AND NUMBERS, MORE: powers and squares: each returns true, and writes nothing that was there. No conditions.
-/
import Derived.Test.YtpghcclgphjflaaLaw01
namespace Go.Proofs.Ytpghcclgphjflaa
open Go.RowKit
set_option linter.unusedVariables false

theorem neq_same {a b : F} (h : a = b) : ((a.n : Int) != (b.n : Int)) = false := by rw [h]; simp
theorem eqq_same {a b : F} (h : a = b) : ((a.n : Int) == (b.n : Int)) = true := by rw [h]; simp
theorem pwZ_some {a : F} (h : a ≠ 0) (n : Int) : pwZ a n = pw a (n % 255).toNat := by unfold pwZ; rw [if_neg h]
theorem pwZ_add {a : F} (h : a ≠ 0) (m n : Int) : pwZ a m * pwZ a n = pwZ a (m + n) := by
  rw [pwZ_some h, pwZ_some h, pwZ_some h, ← pw_add, ← pw_mod h, ← pw_mod h ((m + n) % 255).toNat]
  congr 1
  omega
theorem pwZ_ne_zero {a : F} (h : a ≠ 0) (m : Int) : pwZ a m ≠ 0 := by
  rw [pwZ_some h]
  exact pw_ne_zero h _
theorem pwZ_mul {a : F} (h : a ≠ 0) (m n : Int) : pwZ (pwZ a m) n = pwZ a (m * n) := by
  rw [pwZ_some (pwZ_ne_zero h m), pwZ_some h, pwZ_some h, pw_pw, ← pw_mod h, ← pw_mod h ((m * n) % 255).toNat]
  congr 1
  have e2 : (((m % 255).toNat * (n % 255).toNat : Nat) : Int) = (m % 255) * (n % 255) := by
    rw [Int.natCast_mul, Int.toNat_of_nonneg (by omega), Int.toNat_of_nonneg (by omega)]
  have e3 : ((m * n) % 255) = ((m % 255) * (n % 255)) % 255 := Int.mul_emod m n 255
  omega
theorem pwZ_255 {a : F} (h : a ≠ 0) : pwZ a 255 = 1 := by
  rw [pwZ_some h]
  rfl
theorem lg_mul {a b : F} {j k : Nat} (hj : j < 255) (hk : k < 255) (e1 : pw 2 j = a) (e2 : pw 2 k = b) : lg (a * b) = ((j : Int) + k) % 255 := by
  have h : pw 2 ((j + k) % 255) = a * b := by rw [pw_mod two_ne_zero, pw_add, e1, e2]
  rw [lg_at (Nat.mod_lt _ (by omega)) h]
  omega
theorem Log_at (a : F) (k : Int) (h : Hid (lg a = k)) (w : World) : Calls Try.prog 16 #[.int .u8 a.n] w fun e w' => e = .returned (.int .i64 k) ∧ w = w' := by
  have h1 := Log_c a w
  rw [h.out] at h1
  exact h1
set_option maxHeartbeats 1000000 in
set_option maxRecDepth 100000 in
theorem powers_zero (a b : F) (m n m' n' : Int) (hmm : m.tmod 100000 = m') (hnn : n.tmod 100000 = n') (m1 : -100000 < m') (m2 : m' < 100000) (n1 : -100000 < n') (n2 : n' < 100000) (hab : ((a.n : Int) == 0) = true)
    (t : Bool) (hp : (((pwZ a m').n : Int) == 0) = !t) (h0 : (m' == 0) = t) (w : World) :
    Calls Try.prog 6 #[.int .u8 a.n, .int .u8 b.n, .int .i64 m, .int .i64 n] w fun e w' => e = .returned (.bool true) ∧ Below w.heap.size w w' := by
  cases t
  all_goals
    go_enter Try.func6, Try.ntmps6
    go_wp2_with (first
      | (go_at_call 14; refine (alive01_c _).mono ?_; rintro e w1 ⟨rfl, hb1⟩)
      | (go_at_call 23; refine (Pow_c _ _ _).mono ?_; rintro e w' ⟨rfl, rfl⟩))
    go_ret
    exact ⟨rfl, hb1⟩
set_option maxHeartbeats 1000000 in
set_option maxRecDepth 100000 in
theorem powers_some (a b : F) (m n m' n' : Int) (hmm : m.tmod 100000 = m') (hnn : n.tmod 100000 = n') (m1 : -100000 < m') (m2 : m' < 100000) (n1 : -100000 < n') (n2 : n' < 100000) (hab : ((a.n : Int) == 0) = false)
    (p1 : (((pwZ a m' * pwZ a n').n : Int) != ((pwZ a (m' + n')).n : Int)) = false) (p2 : (((pwZ (pwZ a m') n').n : Int) != ((pwZ a (m' * n')).n : Int)) = false) (p3 : (((pwZ a 255).n : Int) != 1) = false)
    (q1 : -10000000000 ≤ m' * n') (q2 : m' * n' ≤ 10000000000) (j k : Nat) (hj : j < 255) (hk : k < 255) (la : Hid (lg a = (j : Int)))
    (t : Bool) (hbb : ((b.n : Int) == 0) = t) (lb : t = false → Hid (lg b = (k : Int)) ∧ Hid (lg (a * b) = ((j : Int) + k) % 255)) (w : World) :
    Calls Try.prog 6 #[.int .u8 a.n, .int .u8 b.n, .int .i64 m, .int .i64 n] w fun e w' => e = .returned (.bool true) ∧ Below w.heap.size w w' := by
  cases t
  · obtain ⟨lb2, lab⟩ := lb rfl
    clear lb
    go_enter Try.func6, Try.ntmps6
    go_wp2_with (first
      | (go_at_call 14; refine (alive01_c _).mono ?_; rintro e w1 ⟨rfl, hb1⟩)
      | (go_at_call 23; refine (Pow_c _ _ _).mono ?_; rintro e w' ⟨rfl, rfl⟩)
      | (go_at_call 21; refine (Mul_c _ _ _).mono ?_; rintro e w' ⟨rfl, rfl⟩)
      | (go_at_call 16; (with_reducible refine (Log_at _ _ lab _).mono ?_); rintro e w' ⟨rfl, rfl⟩)
      | (go_at_call 16; (with_reducible refine (Log_at _ _ la _).mono ?_); rintro e w' ⟨rfl, rfl⟩)
      | (go_at_call 16; (with_reducible refine (Log_at _ _ lb2 _).mono ?_); rintro e w' ⟨rfl, rfl⟩))
    go_ret
    exact ⟨rfl, hb1⟩
  · clear lb
    go_enter Try.func6, Try.ntmps6
    go_wp2_with (first
      | (go_at_call 14; refine (alive01_c _).mono ?_; rintro e w1 ⟨rfl, hb1⟩)
      | (go_at_call 23; refine (Pow_c _ _ _).mono ?_; rintro e w' ⟨rfl, rfl⟩)
      | (go_at_call 21; refine (Mul_c _ _ _).mono ?_; rintro e w' ⟨rfl, rfl⟩))
    go_ret
    exact ⟨rfl, hb1⟩
theorem abs_mul (m n : Int) (m1 : -100000 < m) (m2 : m < 100000) (n1 : -100000 < n) (n2 : n < 100000) : -10000000000 ≤ m * n ∧ m * n ≤ 10000000000 := by
  have h : (m * n).natAbs ≤ 100000 * 100000 := by
    rw [Int.natAbs_mul]
    exact Nat.mul_le_mul (by omega) (by omega)
  omega
theorem walk_GfPowers (w : World) (a b : F) (m : Int) (_ : (Lit.int .i64 m).wf = true) (n : Int) (_ : (Lit.int .i64 n).wf = true) :
    Calls Try.prog 6 #[.int .u8 a.n, .int .u8 b.n, .int .i64 m, .int .i64 n] w fun e w' => e = .returned (.bool true) ∧ Below w.heap.size w w' := by
  have m1 : -100000 < m.tmod 100000 := by have := Int.lt_tmod_of_pos m (b := 100000) (by omega); omega
  have m2 : m.tmod 100000 < 100000 := Int.tmod_lt_of_pos m (by omega)
  have n1 : -100000 < n.tmod 100000 := by have := Int.lt_tmod_of_pos n (b := 100000) (by omega); omega
  have n2 : n.tmod 100000 < 100000 := Int.tmod_lt_of_pos n (by omega)
  by_cases ha : a = 0
  · refine powers_zero a b m n _ _ rfl rfl m1 m2 n1 n2 (by rw [n_beq, decide_eq_true ha]) (decide (m.tmod 100000 = 0)) ?_ (by by_cases h : m.tmod 100000 = 0 <;> simp [h]) w
    subst ha
    rw [n_beq]
    unfold pwZ
    by_cases h : m.tmod 100000 = 0
    · rw [if_pos rfl, if_pos h, decide_eq_true h]; rfl
    · rw [if_pos rfl, if_neg h, decide_eq_false h]; rfl
  · obtain ⟨j, hj, ej, lj⟩ := lg_some ha
    have hm := abs_mul _ _ m1 m2 n1 n2
    have p3 : (((pwZ a 255).n : Int) != 1) = false := by rw [pwZ_255 ha]; rfl
    by_cases hb : b = 0
    · exact powers_some a b m n _ _ rfl rfl m1 m2 n1 n2 (by rw [n_beq, decide_eq_false ha]) (neq_same (pwZ_add ha _ _)) (neq_same (pwZ_mul ha _ _)) p3 hm.1 hm.2 j 0 hj (by omega) lj true (by rw [n_beq, decide_eq_true hb]) (fun h => by cases h) w
    · obtain ⟨k, hk, ek, lk⟩ := lg_some hb
      exact powers_some a b m n _ _ rfl rfl m1 m2 n1 n2 (by rw [n_beq, decide_eq_false ha]) (neq_same (pwZ_add ha _ _)) (neq_same (pwZ_mul ha _ _)) p3 hm.1 hm.2 j k hj hk lj false (by rw [n_beq, decide_eq_false hb]) (fun _ => ⟨lk, lg_mul hj hk ej ek⟩) w

/-! ### Squares -/
theorem pwZ_two (a : F) : pwZ a 2 = a * a := by
  by_cases h : a = 0
  · subst h; rfl
  · rw [pwZ_some h]
    show pw a 2 = a * a
    rw [pw_succ, pw_one]
theorem sq_add (a b : F) : pwZ (a + b) 2 = pwZ a 2 + pwZ b 2 := by
  rw [pwZ_two, pwZ_two, pwZ_two, add_mul, mul_add, mul_add, mul_comm b a, add_assoc, ← add_assoc (a * b), add_self, zero_add]
theorem sq_root (a : F) : pwZ (pwZ a 128) 2 = a := by
  by_cases h : a = 0
  · subst h; rfl
  · rw [pwZ_mul h, pwZ_some h]
    exact pw_one a
theorem lg_inv {a : F} {k : Nat} (ha : a ≠ 0) (hk : k < 255) (e : pw 2 k = a) : lg (inv a) = (255 - (k : Int)) % 255 := by
  have h : pw 2 ((255 - k) % 255) = inv a := by
    rw [pw_mod two_ne_zero]
    refine inv_unique ?_
    rw [← e, ← pw_add, show k + (255 - k) = 255 by omega, pw_255 two_ne_zero]
  rw [lg_at (Nat.mod_lt _ (by omega)) h]
  omega
theorem pwZ_254 {a : F} (ha : a ≠ 0) : pwZ a 254 = inv a := by rw [pwZ_some ha]; rfl
set_option maxHeartbeats 1000000 in
set_option maxRecDepth 100000 in
theorem squares_any (a b : F) (s1 : (((pwZ (a + b) 2).n : Int) != ((pwZ a 2 + pwZ b 2).n : Int)) = false) (s2 : (((pwZ (pwZ a 128) 2).n : Int) != (a.n : Int)) = false) (k : Nat) (hk : k < 255)
    (t : Bool) (hab : ((a.n : Int) == 0) = t) (ht : t = false → Hid (lg a = (k : Int)) ∧ Hid (lg (inv a) = (255 - (k : Int)) % 255) ∧ (((pwZ a (-1)).n : Int) == ((inv a).n : Int)) = true ∧ (((pwZ a 254).n : Int) == ((inv a).n : Int)) = true) (w : World) :
    Calls Try.prog 8 #[.int .u8 a.n, .int .u8 b.n] w fun e w' => e = .returned (.bool true) ∧ Below w.heap.size w w' := by
  cases t
  · obtain ⟨la, li, t1, t2⟩ := ht rfl
    go_enter Try.func8, Try.ntmps8
    go_wp2_with (first
      | (go_at_call 14; refine (alive01_c _).mono ?_; rintro e w1 ⟨rfl, hb1⟩)
      | (go_at_call 23; refine (Pow_c _ _ _).mono ?_; rintro e w' ⟨rfl, rfl⟩)
      | (go_at_call 20; refine (Add_c _ _ _).mono ?_; rintro e w' ⟨rfl, rfl⟩)
      | (go_at_call 22; refine (Inv_c _ _).mono ?_; rintro e w' ⟨rfl, rfl⟩)
      | (go_at_call 16; (with_reducible refine (Log_at _ _ la _).mono ?_); rintro e w' ⟨rfl, rfl⟩)
      | (go_at_call 16; (with_reducible refine (Log_at _ _ li _).mono ?_); rintro e w' ⟨rfl, rfl⟩))
    go_ret
    exact ⟨rfl, hb1⟩
  · clear ht
    go_enter Try.func8, Try.ntmps8
    go_wp2_with (first
      | (go_at_call 14; refine (alive01_c _).mono ?_; rintro e w1 ⟨rfl, hb1⟩)
      | (go_at_call 23; refine (Pow_c _ _ _).mono ?_; rintro e w' ⟨rfl, rfl⟩)
      | (go_at_call 20; refine (Add_c _ _ _).mono ?_; rintro e w' ⟨rfl, rfl⟩))
    go_ret
    exact ⟨rfl, hb1⟩
theorem walk_GfSquares (w : World) (a b : F) :
    Calls Try.prog 8 #[.int .u8 a.n, .int .u8 b.n] w fun e w' => e = .returned (.bool true) ∧ Below w.heap.size w w' := by
  by_cases ha : a = 0
  · exact squares_any a b (neq_same (sq_add a b)) (neq_same (sq_root a)) 0 (by omega) true (by rw [n_beq, decide_eq_true ha]) (fun h => by cases h) w
  · obtain ⟨k, hk, e, l⟩ := lg_some ha
    exact squares_any a b (neq_same (sq_add a b)) (neq_same (sq_root a)) k hk false (by rw [n_beq, decide_eq_false ha]) (fun _ => ⟨l, lg_inv ha hk e, eqq_same (pwZ_neg_one a), eqq_same (pwZ_254 ha)⟩) w
end Go.Proofs.Ytpghcclgphjflaa
