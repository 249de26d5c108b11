/-
  LAW 03's WALK: LinearFinds: it returns true, and writes nothing that was there. No conditions.
-/
import Derived.Test.YtciljflnhleocaaLaw03
namespace Go.Proofs.Ytciljflnhleocaa
open Go.RowKit
set_option maxRecDepth 100000
set_option linter.unusedVariables false

/-- few rows and columns -/
def isS (n : Nat) (RL : Nat → Nat) : Prop := n ≤ 20 ∧ ∀ r, r < n → RL r ≤ 20
instance (n : Nat) (RL : Nat → Nat) : Decidable (isS n RL) := inferInstanceAs (Decidable (n ≤ 20 ∧ ∀ r, r < n → RL r ≤ 20))
set_option maxHeartbeats 1000000 in
theorem small_c {w : World} {A : Option Addr} {n cap : Nat} {RA : Nat → Option Addr} {RL RC : Nat → Nat} {R : Nat → List F} (h : MIn w A n cap RA RL RC R) :
    Calls Try.prog 11 #[.slice A n cap] w fun e w' => e = .returned (.bool (decide (isS n RL))) ∧ w = w' := by
  have hm := h.nmax
  have hlm : ∀ r, r < n → RL r ≤ 9223372036854775807 := fun r hr => (h.row r hr).row.max
  have HLM := Lib.hid hlm
  clear hlm
  go_enter Try.func11, Try.ntmps11
  go_wp2
  go_loop [7] (fun i => ∃ k : Nat, k ≤ n ∧ i = .int .i64 k ∧ Hid (∀ r, r < k → RL r ≤ 20)) (fun i => n - (intOf i).toNat)
  case atStart => exact ⟨0, by omega, rfl, fun r hr => by omega⟩
  case round =>
    obtain ⟨k, hk, rfl, hs⟩ := hrel
    by_cases hlt : k < n
    · obtain ⟨b, o, e, _, q1⟩ := h.at_ hlt
      subst e
      have hkn : (k : Int) < n := by omega
      have hk1 := HLM.out k hlt
      by_cases he : RL k ≤ 20
      · have hne : ¬ (20 : Int) < (RL k : Int) := by omega
        have HE := Lib.hid he
        clear he
        go_wp2
        go_round
        case rel =>
          refine ⟨k + 1, by omega, by go_num, fun r hr => ?_⟩
          rcases Nat.lt_or_ge r k with h1 | h1
          · exact hs.out r h1
          · rw [show r = k by omega]; exact HE.out
        case measure => simp [intOf]; omega
      · have hne : (20 : Int) < (RL k : Int) := by omega
        have HE : Hid (false = decide (isS n RL)) := (decide_eq_false fun e => he (e.2 k hlt)).symm
        clear he
        go_wp2
        go_ret
        exact ⟨ret_bool' HE.out, rfl⟩
    · have HE : Hid (decide (n ≤ 20) = decide (isS n RL)) := by
        unfold Hid
        refine decide_eq_decide.2 ⟨fun e => ⟨e, fun r hr => hs.out r (by omega)⟩, fun e => e.1⟩
      by_cases hn : n ≤ 20
      · have hni : (n : Int) ≤ 20 := by omega
        have HE2 : Hid (true = decide (isS n RL)) := by unfold Hid; rw [← HE.out, decide_eq_true hn]
        clear hn
        go_wp2
        go_ret
        exact ⟨ret_bool' HE2.out, rfl⟩
      · have hni : ¬ (n : Int) ≤ 20 := by omega
        have HE2 : Hid (false = decide (isS n RL)) := by unfold Hid; rw [← HE.out, decide_eq_false hn]
        clear hn
        go_wp2
        go_ret
        exact ⟨ret_bool' HE2.out, rfl⟩
set_option maxHeartbeats 1000000 in
theorem RefRight_c {w : World} {A : Option Addr} {n cap : Nat} {RA : Nat → Option Addr} {RL RC : Nat → Nat} {R : Nat → List F} (h : MIn w A n cap RA RL RC R) :
    Calls Try.prog 15 #[.slice A n cap] w fun e w' => e = .returned (.bool (decide (isR n RL))) ∧ ∃ q, w' = w.drewN q := by
  have hm := h.nmax
  have hlm : ∀ r, r < n → RL r ≤ 9223372036854775807 := fun r hr => (h.row r hr).row.max
  have HLM := Lib.hid hlm
  clear hlm
  go_enter Try.func15, Try.ntmps15
  go_wp2
  go_loopw [3] (fun i wr => ∃ k q : Nat, 1 ≤ k ∧ i = .int .i64 k ∧ wr = w.drewN q ∧ Hid (∀ r, r < k → r < n → RL r = RL 0) ∧ k ≤ n + 1) (fun i _ => n + 1 - (intOf i).toNat)
  case atStart => exact ⟨1, 0, by omega, rfl, rfl, fun r hr _ => by rw [show r = 0 by omega], by omega⟩
  case round =>
    obtain ⟨k, q, hk1, rfl, rfl, hs, hkn1⟩ := hrel
    by_cases hlt : k < n
    · obtain ⟨b, o, e, _, q1⟩ := h.at_ hlt
      obtain ⟨b', o', e', _, q0⟩ := h.at_ (r := 0) (by omega)
      rw [e] at e'
      injection e' with e'
      injection e' with e1 e2
      subst e1 e2 e
      rw [Nat.add_zero] at q0
      have hkn : (k : Int) < n := by omega
      have hn0 : (0 : Int) < n := by omega
      have hk2 := HLM.out k hlt
      have hk3 := HLM.out 0 (by omega)
      by_cases he : RL k = RL 0
      · have hne : ((RL k : Int) != (RL 0 : Int)) = false := by rw [he]; simp
        have HE := Lib.hid he
        clear he
        go_wp2
        go_quiet (fail)
        go_wp2
        go_roundw
        case rel =>
          refine ⟨k + 1, _, by omega, by go_num, rfl, fun r hr hrn => ?_, by omega⟩
          rcases Nat.lt_or_ge r k with h1 | h1
          · exact hs.out r h1 hrn
          · rw [show r = k by omega]; exact HE.out
        case measure => simp [intOf]; omega
      · have hne : ((RL k : Int) != (RL 0 : Int)) = true := by rw [bne_iff_ne]; omega
        have HE : Hid (false = decide (isR n RL)) := (decide_eq_false fun e => he (e k hlt)).symm
        clear he
        go_wp2
        go_quiet (fail)
        go_wp2
        go_ret
        exact ⟨ret_bool' HE.out, _, World.drewN_drewN _ _ _⟩
    · have HE : Hid (true = decide (isR n RL)) := (decide_eq_true fun r hr => hs.out r (by omega) hr).symm
      have hkn : ¬ (k : Int) < n := by omega
      go_wp2
      go_ret
      exact ⟨ret_bool' HE.out, q, rfl⟩
theorem dot_dt (a b : List F) (k : Nat) : dotF a b k = dt k (gt a) (gt b) := by
  induction k with
  | zero => rfl
  | succ k ih =>
    show dotF a b k + gt a k * gt b k = dt k (gt a) (gt b) + gt a k * gt b k
    rw [ih]
theorem gt_times {n L : Nat} {RL : Nat → Nat} {R : Nat → List F} {x : List F} (hL : ∀ r, r < n → RL r = L) (hx : x.length = L) {r : Nat} (hr : r < n) : gt (timesF n RL R x) r = dt L (mat R r) (gt x) := by
  unfold timesF
  rw [gt_mkF, if_pos hr, hL r hr, hx, Nat.min_self, dot_dt]
  rfl
/-- what is solved comes to the right side -/
theorem times_sol {n L : Nat} {RL : Nat → Nat} {R : Nat → List F} {xl rt : List F} (hL : ∀ r, r < n → RL r = L) (hx : xl.length = L) (hrt : rt.length = n)
    (hs : SolX L (redTo (augC L (mat R) (gt rt)) n L).1 (redTo (augC L (mat R) (gt rt)) n L).2 (gt xl)) (hc : Cons (redTo (augC L (mat R) (gt rt)) n L) n L) : timesF n RL R xl = rt := by
  have h := (sol_right (mat R) (gt rt) hs).2 hc
  refine ext_gt (by rw [timesF_length, hrt]) fun i hi => ?_
  rw [timesF_length] at hi
  rw [gt_times hL hx hi]
  exact h i hi
/-- a side that something comes to is consistent -/
theorem cons_times {n L : Nat} {RL : Nat → Nat} {R : Nat → List F} {x : List F} (hL : ∀ r, r < n → RL r = L) (hx : x.length = L) : Cons (redTo (augC L (mat R) (gt (timesF n RL R x))) n L) n L :=
  sol_any (mat R) (gt (timesF n RL R x)) (x := gt x) fun i hi => (gt_times hL hx hi).symm
end Go.Proofs.Ytciljflnhleocaa
