/-
  ROWS OF STEPS (an int and a row of bytes) THAT COME IN; few. No conditions.
-/
import Derived.Test.YtkijagodedmipaaBase
import Derived.Test.YtkijagodedmipaaJoin
namespace Go.Proofs.Ytkijagodedmipaa
open Go.RowKit
set_option maxRecDepth 100000
set_option linter.unusedVariables false

/-- a row of steps -/
structure OIn (w : World) (A : Option Addr) (n cap : Nat) (K : Nat → Int) (RA : Nat → Option Addr) (RL RC : Nat → Nat) (R : Nat → List F) : Prop where
  le : n ≤ cap
  max : cap ≤ maxLen
  top : 0 < n → ∃ b off, A = some ⟨b, off, none⟩ ∧ b < w.heap.size ∧ ∀ r, r < n → w.cell? ⟨b, off + r * 2, none⟩ = some (.int .i64 (K r)) ∧ w.cell? ⟨b, off + r * 2 + 1, none⟩ = some (.slice (RA r) (RL r) (RC r))
  row : ∀ r, r < n → RowIn w (RA r) (RL r) (RC r) (R r)
  wf : ∀ r, r < n → (Lit.int .i64 (K r)).wf = true
namespace OIn
variable {w w' : World} {A : Option Addr} {n cap : Nat} {K : Nat → Int} {RA : Nat → Option Addr} {RL RC : Nat → Nat} {R : Nat → List F}
theorem below (h : OIn w A n cap K RA RL RC R) (hb : Below w.heap.size w w') : OIn w' A n cap K RA RL RC R :=
  ⟨h.le, h.max, fun hn => by
    obtain ⟨b, off, e, hl, hc⟩ := h.top hn
    exact ⟨b, off, e, by have := hb.size; omega, fun r hr => ⟨(hb.cell (p := ⟨b, off + r * 2, none⟩) hl).trans (hc r hr).1, (hb.cell (p := ⟨b, off + r * 2 + 1, none⟩) hl).trans (hc r hr).2⟩⟩, fun r hr => (h.row r hr).below hb, h.wf⟩
theorem at_ (h : OIn w A n cap K RA RL RC R) {r : Nat} (hr : r < n) : ∃ b off, A = some ⟨b, off, none⟩ ∧ b < w.heap.size ∧ w.cell? ⟨b, off + r * 2, none⟩ = some (.int .i64 (K r)) ∧ w.cell? ⟨b, off + r * 2 + 1, none⟩ = some (.slice (RA r) (RL r) (RC r)) := by
  obtain ⟨b, off, e, hl, hc⟩ := h.top (by omega)
  exact ⟨b, off, e, hl, hc r hr⟩
theorem nmax (h : OIn w A n cap K RA RL RC R) : n ≤ 9223372036854775807 := by have := h.le; have := h.max; unfold maxLen at this; omega
theorem nil (w : World) (K : Nat → Int) (RA : Nat → Option Addr) (RL RC : Nat → Nat) (R : Nat → List F) : OIn w none 0 0 K RA RL RC R := ⟨Nat.le_refl _, by unfold maxLen; omega, fun h => by omega, fun r hr => by omega, fun r hr => by omega⟩
end OIn
/-- steps that are few, of few bytes -/
def fewO (n : Nat) (RL : Nat → Nat) : Prop := n ≤ 20 ∧ ∀ r, r < n → RL r ≤ 60
instance (n : Nat) (RL : Nat → Nat) : Decidable (fewO n RL) := by unfold fewO; infer_instance
theorem few22_c {w : World} {A : Option Addr} {n cap : Nat} {K : Nat → Int} {RA : Nat → Option Addr} {RL RC : Nat → Nat} {R : Nat → List F} (h : OIn w A n cap K RA RL RC R) :
    Calls Try.prog 8 #[.slice A n cap] w fun e w' => e = .returned (.bool (decide (fewO n RL))) ∧ Below w.heap.size w w' := by
  have hn := h.nmax
  have H := Lib.hid h
  clear h
  go_enter Try.func8, Try.ntmps8
  go_wp2
  go_loopw [7] (fun i wr => ∃ k : Nat, k ≤ n ∧ i = .int .i64 k ∧ Hid (∀ r, r < k → RL r ≤ 60) ∧ Hid (Below w.heap.size w wr)) (fun i _ => n - (intOf i).toNat)
  case atStart => exact ⟨0, by omega, rfl, fun r hr => absurd hr (by omega), Below.refl _ _⟩
  case round =>
    obtain ⟨k, hk, rfl, hL, hb⟩ := hrel
    by_cases hlt : k < n
    · have hkn : (k : Int) < n := by omega
      obtain ⟨b1, o1, rfl, _, q0, q1⟩ := (H.out.below hb.out).at_ hlt
      have HBA := Lib.hid (fun C => hb.out.alloc hb.out.size (.cells C 35))
      by_cases g : 60 < RL k
      · have gi : (60 : Int) < RL k := by omega
        have HF : Hid (decide (fewO n RL) = false) := decide_eq_false fun hf => by have := hf.2 k hlt; omega
        go_wp2
        go_ret
        exact ⟨ret_bool HF.out.symm, HBA.out _⟩
      · have gi : ¬ (60 : Int) < RL k := by omega
        have hL2 : Hid (∀ r, r < k + 1 → RL r ≤ 60) := fun r hr => by
          by_cases e : r = k
          · subst e; omega
          · exact hL.out r (by omega)
        go_wp2
        go_roundw
        case rel => exact ⟨k + 1, by omega, by go_num, hL2, HBA.out _⟩
        case measure => simp [intOf]; omega
    · obtain rfl : k = n := by omega
      have HF : Hid (decide (fewO k RL) = decide ((k : Int) ≤ 20)) := by
        unfold Hid
        rw [decide_eq_decide]
        exact ⟨fun hf => by have := hf.1; omega, fun h => ⟨by omega, hL.out⟩⟩
      go_wp2
      go_ret
      exact ⟨ret_bool HF.out.symm, hb.out⟩
end Go.Proofs.Ytkijagodedmipaa
