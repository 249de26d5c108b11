/-
  COSTS, AND WHAT IS WRONG WITH FREQUENCIES: the code's and the document's. No conditions but how many symbols there are.
-/
import Derived.Test.YtfnjjeopojdnjaaLenG
import Derived.Test.YtfnjjeopojdnjaaCanD
import Derived.Lib.MinMax
import Derived.Deep.QuietTactic
import Derived.Deep.RegionHeld3
import Derived.IntWalk
namespace Go.Proofs.Ytfnjjeopojdnjaa
open Go.RowKit
set_option maxRecDepth 100000
set_option linter.unusedVariables false

def hN (x : Int) (b : Nat) : Nat := min x.toNat b
def cst (fr l : List Int) : Nat → Nat
  | 0 => 0
  | k + 1 => cst fr l k + hN (gi fr k) 1073741824 * hN (gi l k) 15
theorem hN_le (x : Int) (b : Nat) : hN x b ≤ b := Nat.min_le_right _ _
theorem cst_le (fr l : List Int) (k : Nat) : cst fr l k ≤ k * 16106127360 := by
  induction k with
  | zero => exact Nat.zero_le _
  | succ k ih =>
    have h1 := Nat.mul_le_mul (hN_le (gi fr k) 1073741824) (hN_le (gi l k) 15)
    have h2 : 1073741824 * 15 = 16106127360 := by decide
    unfold cst
    omega
theorem held_c (x : Int) (b : Nat) (w : World) : Calls Try.prog 25 #[.int .i64 x, .int .i64 b] w fun e w' => e = .returned (.int .i64 (hN x b : Nat)) ∧ w = w' := by
  have h : Hid (min (max x 0) (b : Int) = ((hN x b : Nat) : Int)) := by unfold Hid hN; omega
  go_enter Try.func25, Try.ntmps25
  go_wp2
  go_ret
  exact ⟨ret_i64 h.out, rfl⟩
theorem heldR_c (x : Int) (b : Nat) (w : World) : Calls Try.prog 24 #[.int .i64 x, .int .i64 0, .int .i64 b] w fun e w' => e = .returned (.int .i64 (hN x b : Nat)) ∧ w = w' := by
  have h : Hid ((if (if (b : Int) < x then (b : Int) else x) < 0 then 0 else (if (b : Int) < x then (b : Int) else x)) = ((hN x b : Nat) : Int)) := by unfold Hid hN; omega
  go_enter Try.func24, Try.ntmps24
  go_wp2
  all_goals (go_ret; have := h.out; exact ⟨ret_i64 (by omega), rfl⟩)
set_option maxHeartbeats 2000000 in
theorem Cost_c (A B : Option Addr) (n m ca cb : Nat) (fr l : List Int) (w : World) (ha : IRow w A n .i64 fr) (hb : IRow w B m .i64 l) (hn : n ≤ 400) (hm : m ≤ 400) :
    Calls Try.prog 16 #[.slice A n ca, .slice B m cb] w fun e w' => e = .returned (.int .i64 (cst fr l (min n m) : Nat)) ∧ ∃ q, w' = w.drewN q := by
  obtain ⟨N, hN⟩ : ∃ N, N = min n m := ⟨_, rfl⟩
  have hNi : min (n : Int) (m : Int) = (N : Int) := by omega
  have hN1 : N ≤ n := by omega
  have hN2 : N ≤ m := by omega
  rw [← hN]
  clear hN
  go_enter Try.func16, Try.ntmps16
  go_wp2
  go_loopw [5, 12] (fun s i wr => ∃ k q : Nat, k ≤ N ∧ i = .int .i64 k ∧ s = .int .i64 (cst fr l k : Nat) ∧ Hid (wr = w.drewN q)) (fun _ i _ => N - (intOf i).toNat)
  case atStart => exact ⟨0, 0, by omega, rfl, rfl, rfl⟩
  case round =>
    obtain ⟨k, q, hk, rfl, rfl, hw⟩ := hrel
    by_cases hlt : k < N
    · have ha1 := ha.drewN q
      have hb1 := hb.drewN q
      rw [← hw.out] at ha1 hb1
      obtain ⟨b1, o1, rfl, _, h1⟩ := ha1.at_ (show k < n by omega)
      obtain ⟨b2, o2, rfl, _, h2⟩ := hb1.at_ (show k < m by omega)
      have hkn : (k : Int) < N := by omega
      have hkn1 : (k : Int) < n := by omega
      have hkn2 : (k : Int) < m := by omega
      have hc1 := fun W => held_c (gi fr k) 1073741824 W
      have hc2 := fun W => held_c (gi l k) 15 W
      have hs : Hid (cst fr l (k + 1) = cst fr l k + hN (gi fr k) 1073741824 * hN (gi l k) 15) := rfl
      have hx1 := hN_le (gi fr k) 1073741824
      have hx2 := hN_le (gi l k) 15
      have hcl := cst_le fr l k
      generalize cst fr l k = s at *
      generalize gi fr k = X at *
      generalize gi l k = Y at *
      generalize hN X 1073741824 = x at *
      generalize hN Y 15 = y at *
      obtain ⟨z, hz⟩ : ∃ z, z = x * y := ⟨_, rfl⟩
      have hzl : z ≤ 16106127360 := by
        have h3 := Nat.mul_le_mul hx1 hx2
        have h2 : 1073741824 * 15 = 16106127360 := by decide
        omega
      have hzi : (x : Int) * (y : Int) = (z : Int) := by rw [hz]; push_cast; rfl
      have hzw : IntKind.i64.wrap (z : Int) = (z : Int) := IntWalk.i64_in _ (by omega)
      obtain ⟨v, hv⟩ : ∃ v, v = s + z := ⟨_, rfl⟩
      have hvi : (s : Int) + (z : Int) = (v : Int) := by omega
      have hvl : v ≤ 9223372036854775807 := by omega
      have hvi2 : IntKind.i64.wrap ((s : Int) + (z : Int)) = (v : Int) := by rw [hvi]; exact IntWalk.i64_in _ (by omega)
      have hvw : IntKind.i64.wrap (v : Int) = (v : Int) := IntWalk.i64_in _ (by omega)
      have HV : Hid (cst fr l (k + 1) = v) := by unfold Hid; rw [hs.out, hv, hz]
      clear hz hv hs
      have HC1 := Lib.hid hc1
      have HC2 := Lib.hid hc2
      clear hc1 hc2
      go_wp2
      go_region_held3 (fun w' => w'.cell? ⟨b1, o1 + k, none⟩ = some (.int .i64 X) ∧ w'.cell? ⟨b2, o2 + k, none⟩ = some (.int .i64 Y)) (go_keep) ((go_at_call 25; first | (with_reducible refine Calls.mono (HC1.out _) ?_; rintro e w' ⟨rfl, rfl⟩) | (with_reducible refine Calls.mono (HC2.out _) ?_; rintro e w' ⟨rfl, rfl⟩)))
      all_goals
        go_wp2
        go_roundw
        case rel => exact ⟨k + 1, q + 1, by omega, by go_num, by rw [HV.out], by unfold Hid; rw [hw.out]; rfl⟩
        case measure => simp [intOf]; omega
    · obtain rfl : k = N := by omega
      have hkn : ¬ (k : Int) < (k : Int) := by omega
      go_wp2
      go_ret
      exact ⟨rfl, q, hw.out⟩
set_option maxHeartbeats 2000000 in
theorem RefCost_c (A B : Option Addr) (n m ca cb : Nat) (fr l : List Int) (w : World) (ha : IRow w A n .i64 fr) (hb : IRow w B m .i64 l) (hn : n ≤ 400) (hm : m ≤ 400) :
    Calls Try.prog 13 #[.slice A n ca, .slice B m cb] w fun e w' => e = .returned (.int .i64 (cst fr l (min n m) : Nat)) ∧ ∃ q, w' = w.drewN q := by
  obtain ⟨N, hN⟩ : ∃ N, N = min n m := ⟨_, rfl⟩
  have hN1 : N ≤ n := by omega
  have hN2 : N ≤ m := by omega
  rw [← hN]
  have HNN := Lib.hid hN
  clear hN
  go_enter Try.func13, Try.ntmps13
  go_wp2
  go_loopw [5, 6] (fun s i wr => ∃ k q : Nat, k ≤ N ∧ i = .int .i64 k ∧ s = .int .i64 (cst fr l k : Nat) ∧ Hid (wr = w.drewN q)) (fun _ i _ => N - (intOf i).toNat)
  case atStart => exact ⟨0, 0, by omega, rfl, rfl, rfl⟩
  case round =>
    obtain ⟨k, q, hk, rfl, rfl, hw⟩ := hrel
    by_cases hlt : k < N
    · have ha1 := ha.drewN q
      have hb1 := hb.drewN q
      rw [← hw.out] at ha1 hb1
      obtain ⟨b1, o1, rfl, _, h1⟩ := ha1.at_ (show k < n by omega)
      obtain ⟨b2, o2, rfl, _, h2⟩ := hb1.at_ (show k < m by omega)
      have hkn : (k : Int) < N := by omega
      have hkn1 : (k : Int) < n := by omega
      have hkn2 : (k : Int) < m := by omega
      have hc1 := fun W => heldR_c (gi fr k) 1073741824 W
      have hc2 := fun W => heldR_c (gi l k) 15 W
      have hs : Hid (cst fr l (k + 1) = cst fr l k + hN (gi fr k) 1073741824 * hN (gi l k) 15) := rfl
      have hx1 := hN_le (gi fr k) 1073741824
      have hx2 := hN_le (gi l k) 15
      have hcl := cst_le fr l k
      generalize cst fr l k = s at *
      generalize gi fr k = X at *
      generalize gi l k = Y at *
      generalize hN X 1073741824 = x at *
      generalize hN Y 15 = y at *
      obtain ⟨z, hz⟩ : ∃ z, z = x * y := ⟨_, rfl⟩
      have hzl : z ≤ 16106127360 := by
        have h3 := Nat.mul_le_mul hx1 hx2
        have h2 : 1073741824 * 15 = 16106127360 := by decide
        omega
      have hzi : (x : Int) * (y : Int) = (z : Int) := by rw [hz]; push_cast; rfl
      have hzw : IntKind.i64.wrap (z : Int) = (z : Int) := IntWalk.i64_in _ (by omega)
      obtain ⟨v, hv⟩ : ∃ v, v = s + z := ⟨_, rfl⟩
      have hvi : (s : Int) + (z : Int) = (v : Int) := by omega
      have hvl : v ≤ 9223372036854775807 := by omega
      have hvi2 : IntKind.i64.wrap ((s : Int) + (z : Int)) = (v : Int) := by rw [hvi]; exact IntWalk.i64_in _ (by omega)
      have hvw : IntKind.i64.wrap (v : Int) = (v : Int) := IntWalk.i64_in _ (by omega)
      have HV : Hid (cst fr l (k + 1) = v) := by unfold Hid; rw [hs.out, hv, hz]
      clear hz hv hs
      have HC1 := Lib.hid hc1
      have HC2 := Lib.hid hc2
      clear hc1 hc2
      go_wp2
      go_region_held3 (fun w' => w'.cell? ⟨b1, o1 + k, none⟩ = some (.int .i64 X) ∧ w'.cell? ⟨b2, o2 + k, none⟩ = some (.int .i64 Y)) (go_keep) ((go_at_call 24; first | (with_reducible refine Calls.mono (HC1.out _) ?_; rintro e w' ⟨rfl, rfl⟩) | (with_reducible refine Calls.mono (HC2.out _) ?_; rintro e w' ⟨rfl, rfl⟩)))
      all_goals
        go_wp2
        go_roundw
        case rel => exact ⟨k + 1, q + 1, by omega, by go_num, by rw [HV.out], by unfold Hid; rw [hw.out]; rfl⟩
        case measure => simp [intOf]; omega
    · obtain rfl : k = N := by omega
      by_cases hkn1 : k < n
      · have hkn : (k : Int) < n := by omega
        have hkm : ¬ (k : Int) < m := by have := HNN.out; omega
        go_wp2
        go_ret
        exact ⟨rfl, q, hw.out⟩
      · have hkn : ¬ (k : Int) < n := by omega
        go_wp2
        go_ret
        exact ⟨rfl, q, hw.out⟩

/-! ### What is wrong -/
def FreqB (fr : List Int) : Nat → Bool
  | 0 => true
  | k + 1 => FreqB fr k && decide (0 ≤ gi fr k ∧ gi fr k ≤ 1073741824)
theorem FreqB_not {fr : List Int} {k n : Nat} (hk : k < n) (h : ¬ (0 ≤ gi fr k ∧ gi fr k ≤ 1073741824)) : FreqB fr n = false := by
  induction n with
  | zero => omega
  | succ n ih =>
    unfold FreqB
    rcases (show k < n ∨ k = n by omega) with h1 | rfl
    · rw [ih h1]; rfl
    · rw [decide_eq_false h, Bool.and_false]
theorem FreqB_all {fr : List Int} {n : Nat} (h : FreqB fr n = true) : ∀ i, i < n → 0 ≤ gi fr i ∧ gi fr i ≤ 1073741824 := by
  intro i hi
  rcases Classical.em (0 ≤ gi fr i ∧ gi fr i ≤ 1073741824) with h1 | h1
  · exact h1
  · rw [FreqB_not hi h1] at h; cases h
/-- what is wrong with frequencies and a limit -/
def chkE (fr : List Int) (n : Nat) (L : Int) : Nat :=
  if L < 1 ∨ 15 < L then 1 else if 288 < n then 2 else if FreqB fr n = false then 23 else if 2 ^ L.toNat < (comeN fr n).length then 3 else 0
def FIdx (fr : List Int) (n : Nat) (x : Int) : Prop := (FreqB fr n = true ∧ x = -1) ∨ (FreqB fr n = false ∧ 0 ≤ x)
theorem FIdx.geq {fr : List Int} {n : Nat} {x : Int} (h : FIdx fr n x) : decide (0 ≤ x) = !FreqB fr n := by
  rcases h with ⟨h1, rfl⟩ | ⟨h1, h2⟩
  · rw [h1]; rfl
  · rw [h1, decide_eq_true h2]; rfl
theorem bad3_c (a : Int) (w : World) : Calls Try.prog 20 #[.int .i64 a] w fun e w' => e = .returned (.bool (!decide (0 ≤ a ∧ a ≤ 1073741824))) ∧ w = w' := by
  by_cases h1 : a < 0
  · have hd : decide (0 ≤ a ∧ a ≤ 1073741824) = false := decide_eq_false (by omega)
    rw [hd]
    clear hd
    go_enter Try.func20, Try.ntmps20
    go_wp2
    go_ret
    exact ⟨rfl, rfl⟩
  · by_cases h2 : 1073741824 < a
    · have hd : decide (0 ≤ a ∧ a ≤ 1073741824) = false := decide_eq_false (by omega)
      rw [hd]
      clear hd
      go_enter Try.func20, Try.ntmps20
      go_wp2
      go_ret
      exact ⟨rfl, rfl⟩
    · have hd : decide (0 ≤ a ∧ a ≤ 1073741824) = true := decide_eq_true (by omega)
      rw [hd]
      clear hd
      go_enter Try.func20, Try.ntmps20
      go_wp2
      go_ret
      exact ⟨rfl, rfl⟩
set_option maxHeartbeats 1000000 in
theorem Index3_c (A : Option Addr) (n c : Nat) (l : List Int) (w : World) (h : IRow w A n .i64 l) :
    Calls Try.prog 27 #[.slice A n c, .func (.func 20) #[] #[]] w fun e w' => ∃ x, e = .returned (.int .i64 x) ∧ FIdx l n x ∧ w = w' := by
  have hm := h.max'
  go_enter Try.func27, Try.ntmps27
  go_wp2
  go_loop [8] (fun i => ∃ k : Nat, k ≤ n ∧ i = .int .i64 k ∧ Hid (FreqB l k = true)) (fun i => n - (intOf i).toNat)
  case atStart => exact ⟨0, by omega, rfl, rfl⟩
  case round =>
    obtain ⟨k, hk, rfl, hs⟩ := hrel
    by_cases hlt : k < n
    · have hkn : (k : Int) < n := by omega
      obtain ⟨b1, o1, rfl, _, q1⟩ := h.at_ hlt
      have hb := bad3_c (gi l k)
      by_cases hz : 0 ≤ gi l k ∧ gi l k ≤ 1073741824
      · have hs2 : Hid (FreqB l (k + 1) = true) := by unfold Hid FreqB; rw [hs.out, decide_eq_true hz]; rfl
        rw [decide_eq_true hz] at hb
        generalize gi l k = a at *
        have HB := Lib.hid hb
        clear hb hz
        go_wp2_with (go_at_call 20; refine (HB.out _).mono ?_; rintro e w' ⟨rfl, rfl⟩)
        go_round
        case rel => exact ⟨k + 1, by omega, by go_num, hs2⟩
        case measure => simp [intOf]; omega
      · have hr : Hid (FIdx l n k) := .inr ⟨FreqB_not hlt hz, by omega⟩
        rw [decide_eq_false hz] at hb
        generalize gi l k = a at *
        have HB := Lib.hid hb
        clear hb hz
        go_wp2_with (go_at_call 20; refine (HB.out _).mono ?_; rintro e w' ⟨rfl, rfl⟩)
        go_ret
        exact ⟨_, rfl, hr.out, rfl⟩
    · obtain rfl : k = n := by omega
      go_wp2
      go_ret
      exact ⟨_, rfl, .inl ⟨hs.out, rfl⟩, rfl⟩
set_option maxHeartbeats 1000000 in
theorem Contains3_c (A : Option Addr) (n c : Nat) (l : List Int) (w : World) (h : IRow w A n .i64 l) :
    Calls Try.prog 19 #[.slice A n c, .func (.func 20) #[] #[]] w fun e w' => e = .returned (.bool (!FreqB l n)) ∧ w = w' := by
  go_enter Try.func19, Try.ntmps19
  go_wp2_with (go_at_call 27; refine (Index3_c A n c l _ h).mono ?_; rintro e w' ⟨x, rfl, hx, rfl⟩; have HX := Lib.hid hx.geq; clear hx)
  go_ret
  exact ⟨ret_bool HX.out, rfl⟩
theorem come_succ (fr : List Int) (k : Nat) : (comeN fr (k + 1)).length = (comeN fr k).length + if 0 < gi fr k then 1 else 0 := by
  show (comeN fr k ++ (if 0 < gi fr k then [k] else [])).length = _
  rw [List.length_append]
  split <;> rfl
theorem pow_limit (L : Int) (h : 1 ≤ L ∧ L ≤ 15) : ∃ k p : Nat, L = (k : Int) ∧ p = 2 ^ L.toNat ∧ (2 : Int) ^ k = (p : Int) ∧ p ≤ 32768 := by
  obtain ⟨k, rfl⟩ : ∃ k : Nat, L = (k : Int) := ⟨L.toNat, by omega⟩
  have h1 : (2 : Nat) ^ k ≤ 2 ^ 15 := Nat.pow_le_pow_right (by decide) (by omega)
  have h3 : (2 : Nat) ^ 15 = 32768 := rfl
  refine ⟨k, 2 ^ k, rfl, by simp, by push_cast; rfl, by omega⟩
set_option maxHeartbeats 2000000 in
theorem Check_c (A : Option Addr) (n c : Nat) (fr : List Int) (L : Int) (w : World) (h : IRow w A n .i64 fr) :
    Calls Try.prog 11 #[.slice A n c, .int .i64 L] w fun e w' => e = .returned (.int .i64 (chkE fr n L : Nat)) ∧ ∃ q, w' = w.drewN q := by
  have hm := h.max'
  by_cases hL : L < 1 ∨ 15 < L
  · have he : Hid (chkE fr n L = 1) := if_pos hL
    by_cases h1 : L < 1
    · clear hL
      go_enter Try.func11, Try.ntmps11
      go_wp2
      go_ret
      rw [he.out]
      exact ⟨rfl, 0, rfl⟩
    · have h2 : 15 < L := by omega
      clear hL
      go_enter Try.func11, Try.ntmps11
      go_wp2
      go_ret
      rw [he.out]
      exact ⟨rfl, 0, rfl⟩
  · have h1 : ¬ L < 1 := by omega
    have h2 : ¬ 15 < L := by omega
    by_cases hn : 288 < n
    · have he : Hid (chkE fr n L = 2) := by unfold Hid chkE; rw [if_neg hL, if_pos hn]
      have hni : (288 : Int) < n := by omega
      clear hL
      go_enter Try.func11, Try.ntmps11
      go_wp2
      go_ret
      rw [he.out]
      exact ⟨rfl, 0, rfl⟩
    · have hni : ¬ (288 : Int) < n := by omega
      have HE : Hid (chkE fr n L = if FreqB fr n = false then 23 else if 2 ^ L.toNat < (comeN fr n).length then 3 else 0) := by unfold Hid chkE; rw [if_neg hL, if_neg hn]
      obtain ⟨Lk, p, hLk, hp, hpi, hp9⟩ := pow_limit L (by omega)
      rw [← hp] at HE
      subst hLk
      clear hL hp
      go_enter Try.func11, Try.ntmps11
      go_wp2
      go_loopw [5, 6] (fun u i wr => ∃ k m q : Nat, k ≤ n ∧ m ≤ k ∧ i = .int .i64 k ∧ u = .int .i64 (m : Nat) ∧ Hid (m = (comeN fr k).length ∧ FreqB fr k = true) ∧ Hid (wr = w.drewN q)) (fun _ i _ => n - (intOf i).toNat)
      case atStart => exact ⟨0, 0, 0, by omega, by omega, rfl, rfl, ⟨rfl, rfl⟩, rfl⟩
      case round =>
        obtain ⟨k, m, q, hk, hmk, rfl, rfl, hs, hw⟩ := hrel
        by_cases hlt : k < n
        · have ha1 := h.drewN q
          rw [← hw.out] at ha1
          obtain ⟨b1, o1, rfl, _, h1⟩ := ha1.at_ hlt
          have hkn : (k : Int) < n := by omega
          have hcs := Lib.hid (come_succ fr k)
          by_cases hz1 : gi fr k < 0
          · have hr : Hid (chkE fr n Lk = 23) := by unfold Hid; rw [HE.out, FreqB_not hlt (by omega)]; rfl
            generalize gi fr k = a at *
            go_wp2
            go_ret
            rw [hr.out]
            exact ⟨rfl, q, hw.out⟩
          · by_cases hz2 : 1073741824 < gi fr k
            · have hr : Hid (chkE fr n Lk = 23) := by unfold Hid; rw [HE.out, FreqB_not hlt (by omega)]; rfl
              generalize gi fr k = a at *
              go_wp2
              go_ret
              rw [hr.out]
              exact ⟨rfl, q, hw.out⟩
            · have hs2 : Hid (FreqB fr (k + 1) = true) := by unfold Hid FreqB; rw [hs.out.2, decide_eq_true (by omega)]; rfl
              by_cases hpos : 0 < gi fr k
              · rw [if_pos hpos] at hcs
                generalize gi fr k = a at *
                go_wp2
                go_roundw
                case rel => exact ⟨k + 1, m + 1, q, by omega, by omega, by go_num, by go_num, ⟨by rw [hcs.out, hs.out.1], hs2.out⟩, hw⟩
                case measure => simp [intOf]; omega
              · rw [if_neg hpos] at hcs
                generalize gi fr k = a at *
                go_wp2
                go_roundw
                case rel => exact ⟨k + 1, m, q, by omega, by omega, by go_num, rfl, ⟨by rw [hcs.out, hs.out.1]; rfl, hs2.out⟩, hw⟩
                case measure => simp [intOf]; omega
        · obtain rfl : k = n := by omega
          have hkn : ¬ (k : Int) < (k : Int) := by omega
          by_cases hmany : p < m
          · have hmi : (p : Int) < (m : Int) := by omega
            have hr : Hid (chkE fr k Lk = 3) := by unfold Hid; rw [HE.out, hs.out.2, ← hs.out.1, if_pos hmany]; rfl
            go_wp2
            go_ret
            rw [hr.out]
            exact ⟨rfl, q, hw.out⟩
          · have hmi : ¬ (p : Int) < (m : Int) := by omega
            have hr : Hid (chkE fr k Lk = 0) := by unfold Hid; rw [HE.out, hs.out.2, ← hs.out.1, if_neg hmany]; rfl
            go_wp2
            go_ret
            rw [hr.out]
            exact ⟨rfl, q, hw.out⟩
end Go.Proofs.Ytfnjjeopojdnjaa
