/-
  STRIPES: may so many columns follow some: the program's check. No conditions.
-/
import Derived.Test.YtbmkcnlcffnjgaaJoin
import Derived.StillTailTactics
namespace Go.Proofs.Ytbmkcnlcffnjgaa
open Go.RowKit
set_option maxRecDepth 100000
set_option linter.unusedVariables false

/-- a column is not as long as the first -/
def un23 (n : Nat) (RL : Nat → Nat) : Bool := (List.range n).any fun r => !decide (RL r = RL 0)
theorem un23_yes {n r : Nat} {RL : Nat → Nat} (hr : r < n) (h : ¬ RL r = RL 0) : un23 n RL = true := by
  unfold un23
  rw [List.any_eq_true]
  exact ⟨r, by simpa using hr, by simpa using h⟩
theorem un23_no {n : Nat} {RL : Nat → Nat} (h : ∀ r, r < n → RL r = RL 0) : un23 n RL = false := by
  unfold un23
  rw [List.any_eq_false]
  intro r hr
  have h9 := h r (by simpa using hr)
  simpa using h9
theorem un23_all {n : Nat} {RL : Nat → Nat} (h : un23 n RL = false) : ∀ r, r < n → RL r = RL 0 := fun r hr => by
  apply Decidable.byContradiction
  intro e
  rw [un23_yes hr e] at h
  cases h
theorem unC_c {w : World} {A : Option Addr} {n cap : Nat} {RA : Nat → Option Addr} {RL RC : Nat → Nat} {R : Nat → List F} (h : MIn w A n cap RA RL RC R) {k q : Nat} (hk : k < n) (hq : w.cell? ⟨q, 0, none⟩ = some (.slice A n cap)) :
    Calls Try.prog 42 #[.slice (RA k) (RL k) (RC k), .pointer (some ⟨q, 0, none⟩)] w fun e w' => e = .returned (.bool (!decide (RL k = RL 0))) ∧ w = w' := by
  have e0 : ((RL k : Int) != (RL 0 : Int)) = !decide (RL k = RL 0) := by
    by_cases e : RL k = RL 0
    · rw [e]; simp
    · rw [decide_eq_false e, bne_iff_ne.2 (by omega)]; rfl
  obtain ⟨b1, o1, rfl, _, q1⟩ := h.at_ (r := 0) (by omega)
  rw [Nat.add_zero] at q1
  have h1i : (0 : Int) < (n : Int) := by omega
  clear h
  generalize RL k = a at *
  generalize RL 0 = b at *
  go_enter Try.func42, Try.ntmps42
  go_wp2
  go_ret
  exact ⟨rfl, rfl⟩
set_option maxHeartbeats 1000000 in
theorem IndexU_c {w : World} {A : Option Addr} {n cap : Nat} {RA : Nat → Option Addr} {RL RC : Nat → Nat} {R : Nat → List F} (h : MIn w A n cap RA RL RC R) (q : Nat) (hq : w.cell? ⟨q, 0, none⟩ = some (.slice A n cap)) :
    Calls Try.prog 50 #[.slice A n cap, .func (.func 42) #[] #[.pointer (some ⟨q, 0, none⟩)]] w fun e w' => ∃ x : Int, e = .returned (.int .i64 x) ∧ decide (0 ≤ x) = un23 n RL ∧ w = w' := by
  have hnm := h.nmax
  have H := Lib.hid h
  have HQ := Lib.hid hq
  clear h hq
  go_enter Try.func50, Try.ntmps50
  go_wp2
  go_loop [8] (fun i => ∃ k : Nat, k ≤ n ∧ i = .int .i64 k ∧ Hid (∀ r, r < k → RL r = RL 0)) (fun i => n - (intOf i).toNat)
  case atStart => exact ⟨0, by omega, rfl, fun r h1 => by omega⟩
  case round =>
    obtain ⟨k, hk, rfl, hs⟩ := hrel
    by_cases hlt : k < n
    · have hkm : (k : Int) < n := by omega
      obtain ⟨b1, o1, hA, l1, q1⟩ := MIn.at_ H.out hlt
      by_cases hz : RL k = RL 0
      · have hv := unC_c H.out hlt HQ.out
        rw [decide_eq_true hz] at hv
        have HV := Lib.hid hv
        have HZ := Lib.hid hz
        clear hv hz
        subst hA
        go_wp2_with (go_at_call 42; refine HV.out.mono ?_; rintro e w' ⟨rfl, rfl⟩)
        go_round
        case rel =>
          refine ⟨k + 1, by omega, by go_num, fun r h1 => ?_⟩
          rcases Nat.lt_or_ge r k with h3 | h3
          · exact hs.out r h3
          · rw [show r = k by omega]; exact HZ.out
        case measure => simp [intOf]; omega
      · have hv := unC_c H.out hlt HQ.out
        rw [decide_eq_false hz] at hv
        have HV := Lib.hid hv
        have HZ := Lib.hid hz
        clear hv hz
        subst hA
        go_wp2_with (go_at_call 42; refine HV.out.mono ?_; rintro e w' ⟨rfl, rfl⟩)
        go_ret
        refine ⟨_, rfl, ?_, rfl⟩
        rw [un23_yes hlt HZ.out]
        simp
    · obtain rfl : k = n := by omega
      go_wp2
      go_ret
      refine ⟨_, rfl, ?_, rfl⟩
      rw [un23_no hs.out]
      rfl
theorem ContainsU_c {w : World} {A : Option Addr} {n cap : Nat} {RA : Nat → Option Addr} {RL RC : Nat → Nat} {R : Nat → List F} (h : MIn w A n cap RA RL RC R) (q : Nat) (hq : w.cell? ⟨q, 0, none⟩ = some (.slice A n cap)) :
    Calls Try.prog 43 #[.slice A n cap, .func (.func 42) #[] #[.pointer (some ⟨q, 0, none⟩)]] w fun e w' => e = .returned (.bool (un23 n RL)) ∧ w = w' := by
  have HI := Lib.hid (IndexU_c h q hq)
  clear h hq
  go_enter Try.func43, Try.ntmps43
  go_wp2_with (go_at_call 50; refine HI.out.mono ?_; rintro e w' ⟨x, rfl, hx, rfl⟩; have HX := Lib.hid hx; clear hx)
  go_ret
  exact ⟨by rw [HX.out]; rfl, rfl⟩
/-- the error's number -/
def chk23 (n : Nat) (RL : Nat → Nat) (k : Int) : Nat := if n = 0 ∨ un23 n RL = true ∨ k < 0 then 1 else if 255 - (n : Int) < k then 3 else 0
set_option maxHeartbeats 1000000 in
theorem check_c {w : World} {A : Option Addr} {n cap : Nat} {RA : Nat → Option Addr} {RL RC : Nat → Nat} {R : Nat → List F} (h : MIn w A n cap RA RL RC R) (k : Int) :
    Calls Try.prog 31 #[.slice A n cap, .int .i64 k] w fun e w' => e = .returned (.int .i64 (chk23 n RL k : Nat)) ∧ Below w.heap.size w w' := by
  have hnm := h.nmax
  have hbel : Below w.heap.size w (w.alloc (.cells #[.slice A n cap] 40)) := (Below.refl _ _).alloc (Nat.le_refl _) _
  have hcell : (w.alloc (.cells #[.slice A n cap] 40)).cell? ⟨w.heap.size, 0, none⟩ = some (.slice A n cap) := (Blk.new w 40 #[.slice A n cap]).cell 0
  have HC := Lib.hid (ContainsU_c (h.below hbel) w.heap.size hcell)
  clear h
  by_cases h0 : n = 0
  · subst h0
    have hv : Hid (chk23 0 RL k = 1) := if_pos (.inl rfl)
    rw [hv.out]
    clear hnm
    go_enter Try.func31, Try.ntmps31
    go_wp2
    go_ret
    exact ⟨rfl, hbel⟩
  · have e0 : ((n : Int) == 0) = false := by rw [beq_eq_false_iff_ne]; omega
    cases hu : un23 n RL with
    | true =>
      have hv : Hid (chk23 n RL k = 1) := if_pos (.inr (.inl hu))
      rw [hv.out]
      rw [hu] at HC
      clear h0 hu hnm
      go_enter Try.func31, Try.ntmps31
      go_wp2_with (go_at_call 43; refine HC.out.mono ?_; rintro e w' ⟨rfl, rfl⟩)
      go_ret
      exact ⟨rfl, hbel⟩
    | false =>
      rw [hu] at HC
      by_cases hk : k < 0
      · have hv : Hid (chk23 n RL k = 1) := if_pos (.inr (.inr hk))
        rw [hv.out]
        clear h0 hu hnm
        go_enter Try.func31, Try.ntmps31
        go_wp2_with (go_at_call 43; refine HC.out.mono ?_; rintro e w' ⟨rfl, rfl⟩)
        go_ret
        exact ⟨rfl, hbel⟩
      · by_cases hm : 255 - (n : Int) < k
        · have hv : Hid (chk23 n RL k = 3) := by unfold chk23 Hid; rw [if_neg (by rw [hu]; simp; omega), if_pos hm]
          rw [hv.out]
          clear h0 hu
          go_enter Try.func31, Try.ntmps31
          go_wp2_with (go_at_call 43; refine HC.out.mono ?_; rintro e w' ⟨rfl, rfl⟩)
          go_ret
          exact ⟨rfl, hbel⟩
        · have hv : Hid (chk23 n RL k = 0) := by unfold chk23 Hid; rw [if_neg (by rw [hu]; simp; omega), if_neg hm]
          rw [hv.out]
          clear h0 hu
          go_enter Try.func31, Try.ntmps31
          go_wp2_with (go_at_call 43; refine HC.out.mono ?_; rintro e w' ⟨rfl, rfl⟩)
          go_ret
          exact ⟨rfl, hbel⟩
end Go.Proofs.Ytbmkcnlcffnjgaa
