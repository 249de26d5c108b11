/-
  STRIPES: a column's volume: are all bytes behind it noughts? No conditions.
-/
import Derived.Test.YtbmkcnlcffnjgaaSrc
namespace Go.Proofs.Ytbmkcnlcffnjgaa
open Go.RowKit
set_option maxRecDepth 100000
set_option linter.unusedVariables false

/-- is a byte no nought? -/
def nzB (l : List F) (n : Nat) : Bool := (List.range n).any fun r => !decide (gt l r = 0)
theorem nzB_yes {l : List F} {n r : Nat} (hr : r < n) (h : ¬ gt l r = 0) : nzB l n = true := by
  unfold nzB
  rw [List.any_eq_true]
  exact ⟨r, by simpa using hr, by simpa using h⟩
theorem nzB_no {l : List F} {n : Nat} (h : ∀ r, r < n → gt l r = 0) : nzB l n = false := by
  unfold nzB
  rw [List.any_eq_false]
  intro r hr
  have h9 := h r (by simpa using hr)
  simpa using h9
theorem n_bne23 (a : F) : ((a.n : Int) != 0) = !decide (a = 0) := by
  rw [bne, n_beq]
theorem volC_c (x : F) (w : World) : Calls Try.prog 28 #[.int .u8 x.n] w fun e w' => e = .returned (.bool (!decide (x = 0))) ∧ w = w' := by
  have hn := n_bne23 x
  go_enter Try.func28, Try.ntmps28
  go_wp2
  go_ret
  exact ⟨rfl, rfl⟩
set_option maxHeartbeats 1000000 in
theorem IndexZ_c {w : World} {A : Option Addr} {n c : Nat} {l : List F} (h : Row w A n l) :
    Calls Try.prog 41 #[.slice A n c, .func (.func 28) #[] #[]] w fun e w' => ∃ x : Int, e = .returned (.int .i64 x) ∧ decide (0 ≤ x) = nzB l n ∧ w = w' := by
  have hnm := h.max
  have H := Lib.hid h
  clear h
  go_enter Try.func41, Try.ntmps41
  go_wp2
  go_loop [8] (fun i => ∃ k : Nat, k ≤ n ∧ i = .int .i64 k ∧ Hid (∀ r, r < k → gt l r = 0)) (fun i => n - (intOf i).toNat)
  case atStart => exact ⟨0, by omega, rfl, fun r h1 => by omega⟩
  case round =>
    obtain ⟨k, hk, rfl, hs⟩ := hrel
    by_cases hlt : k < n
    · have hkm : (k : Int) < n := by omega
      obtain ⟨b1, o1, rfl, l1, q1⟩ := H.out.at_ hlt
      by_cases hz : gt l k = 0
      · have hv := volC_c (gt l k) w
        rw [decide_eq_true hz] at hv
        have HV := Lib.hid hv
        have HZ := Lib.hid hz
        clear hv hz
        go_wp2_with (go_at_call 28; refine HV.out.mono ?_; rintro e w' ⟨rfl, rfl⟩)
        go_round
        case rel =>
          refine ⟨k + 1, by omega, by go_num, fun r h1 => ?_⟩
          rcases Nat.lt_or_ge r k with h3 | h3
          · exact hs.out r h3
          · rw [show r = k by omega]; exact HZ.out
        case measure => simp [intOf]; omega
      · have hv := volC_c (gt l k) w
        rw [decide_eq_false hz] at hv
        have HV := Lib.hid hv
        have HZ := Lib.hid hz
        clear hv hz
        go_wp2_with (go_at_call 28; refine HV.out.mono ?_; rintro e w' ⟨rfl, rfl⟩)
        go_ret
        refine ⟨_, rfl, ?_, rfl⟩
        rw [nzB_yes hlt HZ.out]
        simp
    · obtain rfl : k = n := by omega
      go_wp2
      go_ret
      refine ⟨_, rfl, ?_, rfl⟩
      rw [nzB_no hs.out]
      rfl
theorem ContainsZ_c {w : World} {A : Option Addr} {n c : Nat} {l : List F} (h : Row w A n l) :
    Calls Try.prog 27 #[.slice A n c, .func (.func 28) #[] #[]] w fun e w' => e = .returned (.bool (nzB l n)) ∧ w = w' := by
  have HI := Lib.hid (IndexZ_c (c := c) h)
  clear h
  go_enter Try.func27, Try.ntmps27
  go_wp2_with (go_at_call 41; refine HI.out.mono ?_; rintro e w' ⟨x, rfl, hx, rfl⟩; have HX := Lib.hid hx; clear hx)
  go_ret
  exact ⟨by rw [HX.out]; rfl, rfl⟩
end Go.Proofs.Ytbmkcnlcffnjgaa
