/-
  THE CONTRACT OF THE DOCUMENT's OWN Through (by Lagrange): at unlike places it is the row with these values. Rows of at most 2^20 bytes.
-/
import Derived.Test.YtcodgamhgfafnaaRef4
namespace Go.Proofs.Ytcodgamhgfafnaa
open Go.RowKit
set_option maxRecDepth 100000
set_option linter.unusedVariables false

/-- the sum so far: the first k values, and 0 at the other places -/
structure Lag (xs ys : List F) (k : Nat) (T : List F) : Prop where
  tt : tr T = T
  le : T.length ≤ xs.length
  val : ∀ j, j < xs.length → ev T (gt xs j) = if j < k then gt ys j else 0
/-- the product so far: 0 at the first d places, but at the k-th the number below -/
structure OneS (xs : List F) (k d : Nat) (O : List F) (bl : F) : Prop where
  le : O.length ≤ (if d ≤ k then d + 1 else d)
  z : ∀ i, i < d → i ≠ k → ev O (gt xs i) = 0
  v : ev O (gt xs k) = bl
  nz : bl ≠ 0
theorem Lag.start (xs ys : List F) : Lag xs ys 0 [] := ⟨rfl, Nat.zero_le _, fun j hj => by rw [if_neg (by omega)]; rfl⟩
theorem ev_one (x : F) : ev [1] x = 1 := by
  show (1 : F) + x * 0 = 1
  rw [mul_zero, add_zero]
theorem OneS.start (xs : List F) (k : Nat) : OneS xs k 0 [1] 1 := ⟨by rw [if_pos (Nat.zero_le _)]; exact Nat.le_refl _, fun i hi => by omega, ev_one _, one_ne_zero⟩
theorem ev_lin (a x : F) : ev [a, 1] x = a + x := by
  show a + x * (1 + x * 0) = a + x
  rw [mul_zero, add_zero, mul_one]
theorem tr_pmul_le (p q : List F) (a b : Nat) (hp : p.length ≤ a + 1) (hq : q.length ≤ b + 1) : (tr (pmul p q)).length ≤ a + b + 1 := by
  rw [tr_length]
  exact tl_le_of _ _ _ fun i hi => pmul_ge p q a b (fun j hj => gt_ge (by omega)) (fun j hj => gt_ge (by omega)) i (by omega)
theorem OneS.step {xs O : List F} {k d : Nat} {bl : F} (hd : xs.Nodup) (hk : k < xs.length) (hdl : d < xs.length) (hne : d ≠ k) (h : OneS xs k d O bl) : OneS xs k (d + 1) (tr (pmul O [gt xs d, 1])) (bl * (gt xs k + gt xs d)) := by
  have hle := h.le
  refine ⟨?_, fun i hi hik => ?_, ?_, ?_⟩
  · by_cases h1 : d ≤ k
    · rw [if_pos h1] at hle
      have := tr_pmul_le O [gt xs d, 1] d 1 hle (by simp)
      rw [if_pos (by omega)]
      omega
    · rw [if_neg h1] at hle
      rw [if_neg (by omega)]
      have := tr_pmul_le O [gt xs d, 1] (d - 1) 1 (by omega) (by simp)
      omega
  · rw [ev_tr, ev_pmul, ev_lin]
    rcases Nat.lt_or_ge i d with h1 | h1
    · rw [h.z i h1 hik, zero_mul]
    · obtain rfl : i = d := by omega
      rw [add_self, mul_zero]
  · rw [ev_tr, ev_pmul, ev_lin, h.v, add_comm (gt xs d)]
  · intro e
    rcases mul_eq_zero.1 e with h1 | h1
    · exact h.nz h1
    · exact hne (gt_inj hd hdl hk (add_eq_zero.1 h1).symm)
theorem OneS.skip {xs O : List F} {k : Nat} {bl : F} (h : OneS xs k k O bl) : OneS xs k (k + 1) O bl :=
  ⟨by have := h.le; rw [if_pos (Nat.le_refl _)] at this; rw [if_neg (by omega)]; exact this, fun i hi hik => h.z i (by omega) hik, h.v, h.nz⟩
theorem Lag.step {xs ys T O : List F} {k : Nat} {bl : F} (hd : xs.Nodup) (hk : k < xs.length) (h : Lag xs ys k T) (ho : OneS xs k xs.length O bl) :
    Lag xs ys (k + 1) (tr (padd T (tr (pmul O [gt ys k * inv bl])))) := by
  have hle := ho.le
  rw [if_neg (by omega)] at hle
  refine ⟨tr_tr _, ?_, fun j hj => ?_⟩
  · have h1 := tr_le (padd T (tr (pmul O [gt ys k * inv bl])))
    rw [padd_length] at h1
    have h2 := tr_pmul_le O [gt ys k * inv bl] (xs.length - 1) 0 (by omega) (by simp)
    have h3 := h.le
    omega
  · rw [ev_tr, ev_padd, ev_tr, ev_pmul, h.val j hj]
    have e1 : ∀ c x : F, ev [c] x = c := fun c x => by show c + x * 0 = c; rw [mul_zero, add_zero]
    rw [e1]
    by_cases hjk : j = k
    · subst hjk
      rw [if_neg (by omega), zero_add, ho.v, mul_left_comm, mul_inv ho.nz, mul_one, if_pos (by omega)]
    · rw [ho.z j hj hjk, zero_mul, add_zero]
      by_cases h1 : j < k
      · rw [if_pos h1, if_pos (by omega)]
      · rw [if_neg h1, if_neg (by omega)]
theorem Lag.fin {xs ys T : List F} (h : Lag xs ys xs.length T) : IsThrough xs ys T := ⟨h.tt, h.le, fun i hi => by rw [h.val i hi, if_pos hi]⟩

end Go.Proofs.Ytcodgamhgfafnaa
