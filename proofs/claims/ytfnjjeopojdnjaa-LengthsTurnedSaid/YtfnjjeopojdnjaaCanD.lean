/-
  THE CONTRACTS OF the document's own Right, Sum and Codes. No conditions.
-/
import Derived.Test.YtfnjjeopojdnjaaCanC
namespace Go.Proofs.Ytfnjjeopojdnjaa
open Go.RowKit
set_option maxRecDepth 100000
set_option linter.unusedVariables false

set_option maxHeartbeats 1000000 in
theorem RefRight_c (A : Option Addr) (n c : Nat) (l : List Int) (w : World) (h : IRow w A n .i64 l) :
    Calls Try.prog 15 #[.slice A n c] w fun e w' => e = .returned (.bool (RightB l n && decide (n ≤ 288))) ∧ w = w' := by
  have hm := h.max'
  go_enter Try.func15, Try.ntmps15
  go_wp2
  go_loop [3] (fun i => ∃ k : Nat, k ≤ n ∧ i = .int .i64 k ∧ Hid (RightB l k = true)) (fun i => n - (intOf i).toNat)
  case atStart => exact ⟨0, by omega, rfl, rfl⟩
  case round =>
    obtain ⟨k, hk, rfl, hs⟩ := hrel
    by_cases hlt : k < n
    · have hkn : (k : Int) < n := by omega
      obtain ⟨b1, o1, rfl, _, q1⟩ := h.at_ hlt
      by_cases hz1 : gi l k < 0
      · have hr : Hid ((RightB l n && decide (n ≤ 288)) = false) := by unfold Hid; rw [RightB_not hlt (by omega)]; rfl
        generalize gi l k = a at *
        go_wp2
        go_ret
        exact ⟨ret_bool hr.out.symm, rfl⟩
      · by_cases hz2 : 15 < gi l k
        · have hr : Hid ((RightB l n && decide (n ≤ 288)) = false) := by unfold Hid; rw [RightB_not hlt (by omega)]; rfl
          generalize gi l k = a at *
          go_wp2
          go_ret
          exact ⟨ret_bool hr.out.symm, rfl⟩
        · have hs2 : Hid (RightB l (k + 1) = true) := by unfold Hid RightB; rw [hs.out, decide_eq_true (by omega)]; rfl
          generalize gi l k = a at *
          go_wp2
          go_round
          case rel => exact ⟨k + 1, by omega, by go_num, hs2⟩
          case measure => simp [intOf]; omega
    · obtain rfl : k = n := by omega
      have hd : Hid (decide ((k : Int) ≤ 288) = (RightB l k && decide (k ≤ 288))) := by
        unfold Hid
        rw [hs.out, Bool.true_and]
        exact decide_eq_decide.2 (by omega)
      go_wp2
      go_ret
      exact ⟨ret_bool hd.out, rfl⟩
theorem shr15 (a pw : Nat) (ha : a ≤ 15) (h : pw = 2 ^ (15 - a)) : (32768 : Int) / 2 ^ a = (pw : Int) := by
  have e : (32768 : Nat) = pw * 2 ^ a := by
    rw [h, ← Nat.pow_add, show 15 - a + a = 15 by omega]
  rw [show (32768 : Int) = ((pw * 2 ^ a : Nat) : Int) by rw [← e]; rfl, Int.natCast_mul, Int.natCast_pow]
  exact Int.mul_ediv_cancel _ (by have : (0 : Int) < ((2 : Nat) : Int) ^ a := Int.pow_pos (by decide); omega)
set_option maxHeartbeats 1000000 in
theorem RefSum_c (A : Option Addr) (n c : Nat) (l : List Int) (w : World) (h : IRow w A n .i64 l) (hr : ∀ i, i < n → 0 ≤ gi l i ∧ gi l i ≤ 15) (hn : n ≤ 300) :
    Calls Try.prog 12 #[.slice A n c] w fun e w' => e = .returned (.int .i64 (kr l n)) ∧ w = w' := by
  have HRI := Lib.hid hr
  have hkb := kr_bound l hr
  have HKB := Lib.hid hkb
  clear hr hkb
  go_enter Try.func12, Try.ntmps12
  go_wp2
  go_loop [3, 4] (fun s i => ∃ k : Nat, k ≤ n ∧ i = .int .i64 k ∧ s = .int .i64 (kr l k)) (fun _ i => n - (intOf i).toNat)
  case atStart => exact ⟨0, by omega, rfl, rfl⟩
  case round =>
    obtain ⟨k, hk, rfl, rfl⟩ := hrel
    by_cases hlt : k < n
    · have hkn : (k : Int) < n := by omega
      obtain ⟨b1, o1, rfl, _, q1⟩ := h.at_ hlt
      have hg := HRI.out k hlt
      obtain ⟨a, ha⟩ : ∃ a : Nat, gi l k = a := ⟨(gi l k).toNat, by omega⟩
      have hkr := HKB.out k (by omega)
      rw [ha] at q1
      by_cases ha0 : 0 < a
      · have ha15 : a ≤ 15 := by omega
        have hai : (0 : Int) < (a : Int) := by omega
        have hs : Hid (kr l (k + 1) = kr l k + 2 ^ (15 - a)) := by
          unfold Hid
          rw [kr, if_pos (by omega), show lnN l k = a by unfold lnN; omega]
        have hp := pow15 a ha15
        obtain ⟨pw, hpw⟩ : ∃ pw, pw = 2 ^ (15 - a) := ⟨_, rfl⟩
        rw [← hpw] at hp hs
        have hsh := shr15 a pw ha15 hpw
        clear hpw
        generalize kr l k = x at *
        go_wp2
        go_round
        case rel => exact ⟨k + 1, by omega, by go_num, by rw [hs.out]; go_num⟩
        case measure => simp [intOf]; omega
      · obtain rfl : a = 0 := by omega
        have hs : Hid (kr l (k + 1) = kr l k) := by
          unfold Hid
          rw [kr, if_neg (by omega)]; rfl
        go_wp2
        go_round
        case rel => exact ⟨k + 1, by omega, by go_num, by rw [hs.out]⟩
        case measure => simp [intOf]; omega
    · obtain rfl : k = n := by omega
      go_wp2
      go_ret
      exact ⟨rfl, rfl⟩
theorem used_facts (l : List Int) {n : Nat} (hr : ∀ i, i < n → 0 ≤ gi l i ∧ gi l i ≤ 15) : ∀ k, k ≤ n → usedL l k ≤ totL l k ∧ usedL l k ≤ k ∧ (usedL l k = 0 → totL l k = 0 ∧ kr l k = 0) ∧ (usedL l k = 1 → kr l k = 2 ^ (15 - totL l k) ∧ totL l k ≤ 15) := by
  intro k
  induction k with
  | zero => intro _; exact ⟨Nat.le_refl _, Nat.le_refl _, fun _ => ⟨rfl, rfl⟩, fun h => by simp [usedL] at h⟩
  | succ k ih =>
    intro hk
    obtain ⟨h1, h0, h2, h3⟩ := ih (by omega)
    have h4 := hr k (by omega)
    unfold usedL totL kr
    by_cases hp : 0 < gi l k
    · rw [if_pos hp, if_pos hp]
      have h5 : 1 ≤ lnN l k ∧ lnN l k ≤ 15 := by unfold lnN; omega
      refine ⟨by omega, by omega, fun h => by omega, fun h => ?_⟩
      obtain ⟨h6, h7⟩ := h2 (by omega)
      rw [h6, h7, Nat.zero_add, Nat.zero_add]
      exact ⟨rfl, h5.2⟩
    · rw [if_neg hp, if_neg hp]
      have h5 : lnN l k = 0 := by unfold lnN; omega
      rw [h5]
      exact ⟨h1, by omega, h2, h3⟩
theorem pow_small_all : ∀ t, t ≤ 15 → 1 ≤ t → (2 ^ (15 - t) = 16384 ↔ t = 1) := by decide
theorem pow_small {t : Nat} (h1 : t ≤ 15) (h2 : 1 ≤ t) : 2 ^ (15 - t) = 16384 ↔ t = 1 := pow_small_all t h1 h2
/-- what is told to be open -/
theorem open_iff (l : List Int) {n : Nat} (hr : ∀ i, i < n → 0 ≤ gi l i ∧ gi l i ≤ 15) : (0 < usedL l n ∧ ¬ (usedL l n = 1 ∧ kr l n = 16384)) ↔ 2 ≤ totL l n := by
  obtain ⟨h1, _, h2, h3⟩ := used_facts l hr n (Nat.le_refl _)
  constructor
  · rintro ⟨h4, h5⟩
    by_cases h6 : usedL l n = 1
    · obtain ⟨h7, h8⟩ := h3 h6
      have h9 := pow_small h8 (by omega)
      have : ¬ totL l n = 1 := fun e => h5 ⟨h6, by rw [h7]; exact h9.2 e⟩
      omega
    · omega
  · intro h4
    refine ⟨?_, ?_⟩
    · by_cases h5 : usedL l n = 0
      · have := (h2 h5).1; omega
      · omega
    · rintro ⟨h5, h6⟩
      obtain ⟨h7, h8⟩ := h3 h5
      rw [h7] at h6
      have := (pow_small h8 (by omega)).1 h6
      omega
/-- the codes that are told by now: of the lengths below one, and of the first of that length -/
def cE (l : List Int) (m s : Nat) : Nat → Nat := fun i => if gi l i < (m : Int) ∨ (gi l i = (m : Int) ∧ i < s) then codeN l i else 0
theorem cE_step {l : List Int} {m s : Nat} (hs : gi l s = (m : Int)) (i : Nat) : cE l m (s + 1) i = if i = s then codeN l s else cE l m s i := by
  unfold cE
  by_cases e : i = s
  · subst e
    rw [if_pos (by omega), if_pos rfl]
  · rw [if_neg e]
    by_cases e2 : gi l i < (m : Int) ∨ (gi l i = (m : Int) ∧ i < s)
    · rw [if_pos e2, if_pos (by omega)]
    · rw [if_neg e2, if_neg (by omega)]
theorem cE_skip {l : List Int} {m s : Nat} (hs : gi l s ≠ (m : Int)) (i : Nat) : cE l m (s + 1) i = cE l m s i := by
  unfold cE
  by_cases e2 : gi l i < (m : Int) ∨ (gi l i = (m : Int) ∧ i < s)
  · rw [if_pos e2, if_pos (by omega)]
  · rw [if_neg e2, if_neg]
    rintro (e | ⟨e3, e4⟩)
    · omega
    · by_cases e5 : i = s
      · subst e5; exact hs e3
      · omega
theorem cE_next {l : List Int} {m n i : Nat} (hi : i < n) : cE l m n i = cE l (m + 1) 0 i := by
  unfold cE
  by_cases e : gi l i < (m : Int) ∨ (gi l i = (m : Int) ∧ i < n)
  · rw [if_pos e, if_pos (by omega)]
  · rw [if_neg e, if_neg (by omega)]
theorem used_le (l : List Int) (k : Nat) : usedL l k ≤ k := by
  induction k with
  | zero => exact Nat.le_refl _
  | succ k ih => unfold usedL; split <;> omega
end Go.Proofs.Ytfnjjeopojdnjaa
