/-
  THE CONTRACTS OF lengths.Fit, canon.wrong, canon.firstCodes, canon.Codes. No conditions.
-/
import Derived.Test.YtfnjjeopojdnjaaCan
import Derived.Test.YtfnjjeopojdnjaaBase
import Derived.Deep.WholeRow
import Derived.Laws.ResultCell
import Derived.Deep.RegionHeld3
import Derived.Laws.CopyOwn
namespace Go.Proofs.Ytfnjjeopojdnjaa
open Go.RowKit
set_option maxRecDepth 100000
set_option linter.unusedVariables false

/-- lengths are from 0 to 15, so far -/
def RightB (l : List Int) : Nat → Bool
  | 0 => true
  | k + 1 => RightB l k && decide (0 ≤ gi l k ∧ gi l k ≤ 15)
theorem RightB_all {l : List Int} {k : Nat} (h : RightB l k = true) : ∀ i, i < k → 0 ≤ gi l i ∧ gi l i ≤ 15 := by
  induction k with
  | zero => intro i hi; omega
  | succ k ih =>
    unfold RightB at h
    rw [Bool.and_eq_true, decide_eq_true_iff] at h
    intro i hi
    by_cases e : i = k
    · subst e; exact h.2
    · exact ih h.1 i (by omega)
theorem RightB_not {l : List Int} {k j : Nat} (hj : j < k) (h : ¬ (0 ≤ gi l j ∧ gi l j ≤ 15)) : RightB l k = false := by
  cases hb : RightB l k with
  | false => rfl
  | true => exact absurd (RightB_all hb j hj) h
theorem RightB_mono {l : List Int} {k : Nat} (h : ∀ i, i < k → 0 ≤ gi l i ∧ gi l i ≤ 15) : RightB l k = true := by
  induction k with
  | zero => rfl
  | succ k ih =>
    unfold RightB
    rw [Bool.and_eq_true, decide_eq_true_iff]
    exact ⟨ih fun i hi => h i (by omega), h k (by omega)⟩
/-- where the first that isn't right stands -/
def IdxRes (l : List Int) (n : Nat) (x : Int) : Prop := (RightB l n = true ∧ x = -1) ∨ (RightB l n = false ∧ 0 ≤ x)
theorem bad2_c (a : Int) (w : World) : Calls Try.prog 26 #[.int .i64 a] w fun e w' => e = .returned (.bool (!decide (0 ≤ a ∧ a ≤ 15))) ∧ w = w' := by
  by_cases h1 : a < 0
  · have hd : decide (0 ≤ a ∧ a ≤ 15) = false := decide_eq_false (by omega)
    rw [hd]
    clear hd
    go_enter Try.func26, Try.ntmps26
    go_wp2
    go_ret
    exact ⟨rfl, rfl⟩
  · by_cases h2 : 15 < a
    · have hd : decide (0 ≤ a ∧ a ≤ 15) = false := decide_eq_false (by omega)
      rw [hd]
      clear hd
      go_enter Try.func26, Try.ntmps26
      go_wp2
      go_ret
      exact ⟨rfl, rfl⟩
    · have hd : decide (0 ≤ a ∧ a ≤ 15) = true := decide_eq_true (by omega)
      rw [hd]
      clear hd
      go_enter Try.func26, Try.ntmps26
      go_wp2
      go_ret
      exact ⟨rfl, rfl⟩
set_option maxHeartbeats 1000000 in
theorem Index2_c (A : Option Addr) (n c : Nat) (l : List Int) (w : World) (h : IRow w A n .i64 l) :
    Calls Try.prog 27 #[.slice A n c, .func (.func 26) #[] #[]] w fun e w' => ∃ x, e = .returned (.int .i64 x) ∧ IdxRes l n x ∧ w = w' := by
  have hm := h.max'
  go_enter Try.func27, Try.ntmps27
  go_wp2
  go_loop [8] (fun i => ∃ k : Nat, k ≤ n ∧ i = .int .i64 k ∧ Hid (RightB l k = true)) (fun i => n - (intOf i).toNat)
  case atStart => exact ⟨0, by omega, rfl, rfl⟩
  case round =>
    obtain ⟨k, hk, rfl, hs⟩ := hrel
    by_cases hlt : k < n
    · have hkn : (k : Int) < n := by omega
      obtain ⟨b1, o1, rfl, _, q1⟩ := h.at_ hlt
      have hb := bad2_c (gi l k)
      by_cases hz : 0 ≤ gi l k ∧ gi l k ≤ 15
      · have hs2 : Hid (RightB l (k + 1) = true) := by unfold Hid RightB; rw [hs.out, decide_eq_true hz]; rfl
        rw [decide_eq_true hz] at hb
        generalize gi l k = a at *
        have HB := Lib.hid hb
        clear hb hz
        go_wp2_with (go_at_call 26; refine (HB.out _).mono ?_; rintro e w' ⟨rfl, rfl⟩)
        go_round
        case rel => exact ⟨k + 1, by omega, by go_num, hs2⟩
        case measure => simp [intOf]; omega
      · have hr : Hid (IdxRes l n k) := .inr ⟨RightB_not hlt hz, by omega⟩
        rw [decide_eq_false hz] at hb
        generalize gi l k = a at *
        have HB := Lib.hid hb
        clear hb hz
        go_wp2_with (go_at_call 26; refine (HB.out _).mono ?_; rintro e w' ⟨rfl, rfl⟩)
        go_ret
        exact ⟨_, rfl, hr.out, rfl⟩
    · obtain rfl : k = n := by omega
      go_wp2
      go_ret
      exact ⟨_, rfl, .inl ⟨hs.out, rfl⟩, rfl⟩
theorem IdxRes.geq {l : List Int} {n : Nat} {x : Int} (h : IdxRes l n x) : decide (0 ≤ x) = !RightB l n := by
  rcases h with ⟨h1, rfl⟩ | ⟨h1, h2⟩
  · rw [h1]; rfl
  · rw [h1, decide_eq_true h2]; rfl
set_option maxHeartbeats 1000000 in
theorem Contains2_c (A : Option Addr) (n c : Nat) (l : List Int) (w : World) (h : IRow w A n .i64 l) :
    Calls Try.prog 19 #[.slice A n c, .func (.func 26) #[] #[]] w fun e w' => e = .returned (.bool (!RightB l n)) ∧ w = w' := by
  go_enter Try.func19, Try.ntmps19
  go_wp2_with (go_at_call 27; refine (Index2_c A n c l _ h).mono ?_; rintro e w' ⟨x, rfl, hx, rfl⟩; have HX := Lib.hid hx.geq; clear hx)
  go_ret
  exact ⟨ret_bool HX.out, rfl⟩
/-- lengths are right, and fit -/
def fitB (l : List Int) (n : Nat) : Bool := decide (n ≤ 288) && RightB l n && decide (kr l n ≤ 32768)
theorem kr_bound (l : List Int) {n : Nat} (h : ∀ i, i < n → 0 ≤ gi l i ∧ gi l i ≤ 15) : ∀ k, k ≤ n → kr l k ≤ 16384 * k := by
  intro k
  induction k with
  | zero => intro _; exact Nat.le_refl _
  | succ k ih =>
    intro hk
    have h1 := ih (by omega)
    have h3 := h k (by omega)
    unfold kr
    by_cases h2 : 0 < gi l k
    · rw [if_pos h2]
      have h3 : 1 ≤ lnN l k := by unfold lnN; omega
      have h4 : 2 ^ (15 - lnN l k) ≤ 2 ^ 14 := Nat.pow_le_pow_right (by decide) (by omega)
      omega
    · rw [if_neg h2]
      omega
theorem pow15 (m : Nat) (h : m ≤ 15) : 2 ^ (15 - m) ≤ 32768 := Nat.pow_le_pow_right (by decide) (by omega : 15 - m ≤ 15)
theorem sum_step (s a pw : Nat) (hs : s ≤ 9223372036854700000) (hp : pw ≤ 32768) (h : pw = 2 ^ (15 - a)) : wrap64 ((s : Int) + wrap64 (2 ^ (15 - a))) = ((s + pw : Nat) : Int) := by
  have e : ((2 : Int) ^ (15 - a)) = (pw : Int) := by rw [h]; simp
  rw [e, IntWalk.wrap64_in (pw : Int) (by omega), IntWalk.wrap64_in _ (by omega)]
  omega
set_option maxHeartbeats 1000000 in
theorem Fit_c (A : Option Addr) (n c : Nat) (l : List Int) (w : World) (h : IRow w A n .i64 l) :
    Calls Try.prog 17 #[.slice A n c] w fun e w' => e = .returned (.bool (fitB l n)) ∧ ∃ q, w' = w.drewN q := by
  have hm := h.max'
  by_cases h1 : (288 : Int) < (n : Int)
  · have hf : Hid (fitB l n = false) := by unfold Hid fitB; rw [decide_eq_false (by omega)]; rfl
    go_enter Try.func17, Try.ntmps17
    go_wp2
    go_ret
    exact ⟨ret_bool hf.out.symm, 0, rfl⟩
  · have hcon := Contains2_c A n c l w h
    cases hr : RightB l n with
    | false =>
      have hf : Hid (fitB l n = false) := by unfold Hid fitB; rw [hr, Bool.and_false]; rfl
      rw [hr] at hcon
      have HC := Lib.hid hcon
      clear hcon hr
      go_enter Try.func17, Try.ntmps17
      go_wp2_with (go_at_call 19; refine HC.out.mono ?_; rintro e _ ⟨rfl, rfl⟩)
      go_ret
      exact ⟨ret_bool hf.out.symm, 0, rfl⟩
    | true =>
      have hf : Hid (fitB l n = decide (kr l n ≤ 32768)) := by unfold Hid fitB; rw [hr, decide_eq_true (by omega)]; rfl
      have hri := RightB_all hr
      have HRI := Lib.hid hri
      have hkb := kr_bound l hri
      have HKB := Lib.hid hkb
      rw [hr] at hcon
      have HC := Lib.hid hcon
      clear hcon hr hri hkb
      go_enter Try.func17, Try.ntmps17
      go_wp2_with (go_at_call 19; refine HC.out.mono ?_; rintro e _ ⟨rfl, rfl⟩)
      go_loopw [3, 15] (fun s i wr => ∃ k q : Nat, k ≤ n ∧ i = .int .i64 k ∧ s = .int .i64 (kr l k) ∧ Hid (wr = w.drewN q)) (fun _ i _ => n - (intOf i).toNat)
      case atStart => exact ⟨0, 0, by omega, rfl, rfl, rfl⟩
      case round =>
        obtain ⟨k, q, hk, rfl, rfl, hw⟩ := hrel
        by_cases hlt : k < n
        · have hkn : (k : Int) < n := by omega
          have h1 := h.drewN q
          rw [← hw.out] at h1
          obtain ⟨b1, o1, rfl, _, q1⟩ := h1.at_ hlt
          have hg := HRI.out k hlt
          obtain ⟨a, ha⟩ : ∃ a : Nat, gi l k = a := ⟨(gi l k).toNat, by omega⟩
          have hkr := HKB.out k (by omega)
          rw [ha] at q1
          by_cases ha0 : 0 < a
          · have ha15 : a ≤ 15 := by omega
            have hai : (0 : Int) < (a : Int) := by omega
            have hs : Hid (kr l (k + 1) = kr l k + 2 ^ (15 - a)) := by
              unfold Hid
              rw [kr, if_pos (by omega), show lnN l k = a by unfold lnN; omega]
            have hp := pow15 a ha15
            obtain ⟨pw, hpw⟩ : ∃ pw, pw = 2 ^ (15 - a) := ⟨_, rfl⟩
            rw [← hpw] at hp hs
            have hpe := Lib.hid hpw
            clear hpw
            go_wp2
            go_roundw
            case rel =>
              refine ⟨k + 1, q, by omega, by go_num, ?_, hw⟩
              rw [hs.out, sum_step (kr l k) a pw (by omega) hp hpe.out]
            case measure => simp [intOf]; omega
          · obtain rfl : a = 0 := by omega
            have hs : Hid (kr l (k + 1) = kr l k) := by
              unfold Hid
              rw [kr, if_neg (by omega)]; rfl
            go_wp2
            go_roundw
            case rel => exact ⟨k + 1, q, by omega, by go_num, by rw [hs.out], hw⟩
            case measure => simp [intOf]; omega
        · obtain rfl : k = n := by omega
          go_wp2
          go_ret
          refine ⟨ret_bool ?_, q, hw.out⟩
          rw [hf.out]
          exact decide_eq_decide.2 (by omega)
/-- the sum of the first lengths -/
def totL (l : List Int) : Nat → Nat
  | 0 => 0
  | k + 1 => totL l k + lnN l k
/-- a row of words of 32 bits, by their places -/
def us (f : Nat → Nat) (n : Nat) : List Value := (List.range n).map fun i => .int .u32 ((f i : Nat) : Int)
theorem us_length (f : Nat → Nat) (n : Nat) : (us f n).length = n := by simp [us]
theorem us_at (f : Nat → Nat) {n i : Nat} (h : i < n) : (us f n)[i]? = some (.int .u32 ((f i : Nat) : Int)) := by simp [us, h]
theorem us_congr {f g : Nat → Nat} {n : Nat} (h : ∀ i, i < n → f i = g i) : us f n = us g n := by
  unfold us
  exact List.map_congr_left fun i hi => by rw [h i (List.mem_range.1 hi)]
theorem us_set {f g : Nat → Nat} {n i v : Nat} (h : ∀ j, j < n → g j = if j = i then v else f j) : (us f n).set i (.int .u32 ((v : Nat) : Int)) = us g n := by
  refine List.ext_getElem? fun j => ?_
  rw [List.getElem?_set]
  by_cases hj : j < n
  · rw [us_at g hj, h j hj, us_length]
    by_cases e : i = j
    · subst e; rw [if_pos rfl, if_pos hj, if_pos rfl]
    · rw [if_neg e, us_at f hj, if_neg (Ne.symm e)]
  · rw [List.getElem?_eq_none (l := us g n) (by rw [us_length]; omega)]
    split
    · rw [if_neg (by rw [us_length]; omega)]
    · rw [List.getElem?_eq_none (by rw [us_length]; omega)]
theorem us_one (f : Nat → Nat) (n : Nat) : ∀ u ∈ us f n, u.oneCell' = true := by
  intro u hu
  obtain ⟨b, _, rfl⟩ := List.mem_map.1 hu
  rfl
end Go.Proofs.Ytfnjjeopojdnjaa
