/-
  PURE: what symMerge does between: two runs, cut, turned, merged each for itself. No conditions.
-/
import Derived.Test.YtfnjjeopojdnjaaLenT
namespace Go.Proofs.Ytfnjjeopojdnjaa
set_option linter.unusedVariables false

def cR (d : Nat → Nat) (v lo : Nat) : Nat → Nat
  | 0 => 0
  | k + 1 => cR d v lo k + if d (lo + k) = v then 1 else 0
theorem cR_succ (d : Nat → Nat) (v lo k : Nat) : cR d v lo (k + 1) = cR d v lo k + if d (lo + k) = v then 1 else 0 := rfl
theorem cnD_cR (d : Nat → Nat) (v lo k : Nat) : cnD d v (lo + k) = cnD d v lo + cR d v lo k := by
  induction k with
  | zero => rfl
  | succ k ih => rw [← Nat.add_assoc, cnD_succ, ih, cR_succ, Nat.add_assoc]
theorem cR_congr {d d' : Nat → Nat} {v lo lo' k : Nat} (h : ∀ i, i < k → d' (lo' + i) = d (lo + i)) : cR d' v lo' k = cR d v lo k := by
  induction k with
  | zero => rfl
  | succ k ih => rw [cR_succ, cR_succ, ih fun i hi => h i (by omega), h k (by omega)]
theorem rot_same_all (d : Nat → Nat) {s e f : Nat} (h1 : s ≤ e) (h2 : e ≤ f) : SameI d (rotR d s e f) s f := by
  refine ⟨fun i hi => ?_, fun v => ?_⟩
  · unfold rotR
    rcases hi with hi | hi
    · rw [if_neg (by omega), if_neg (by omega)]
    · rw [if_neg (by omega), if_neg (by omega)]
  · have e1 : f = s + (f - e) + (e - s) := by omega
    have e2 : f = s + (e - s) + (f - e) := by omega
    have a1 := cnD_cR (rotR d s e f) v (s + (f - e)) (e - s)
    have a2 := cnD_cR (rotR d s e f) v s (f - e)
    have b1 := cnD_cR d v (s + (e - s)) (f - e)
    have b2 := cnD_cR d v s (e - s)
    rw [← e1] at a1
    rw [← e2] at b1
    have c0 : cnD (rotR d s e f) v s = cnD d v s := cnD_congr fun i hi => by unfold rotR; rw [if_neg (by omega), if_neg (by omega)]
    have c1 : cR (rotR d s e f) v s (f - e) = cR d v (s + (e - s)) (f - e) := cR_congr fun i hi => by
      unfold rotR
      rw [if_pos (by omega)]
      congr 1
      omega
    have c2 : cR (rotR d s e f) v (s + (f - e)) (e - s) = cR d v s (e - s) := cR_congr fun i hi => by
      unfold rotR
      rw [if_neg (by omega), if_pos (by omega)]
      congr 1
      omega
    omega
/-- a cut that parts both runs rightly -/
structure CutS (K : Nat → Int) (d : Nat → Nat) (a e b mid s f : Nat) : Prop where
  lo0 : a ≤ s
  se : s ≤ e
  ef : e ≤ f
  fb : f ≤ b
  mm : s + (f - e) = mid
  lo : a < s → f < b → K (d (s - 1)) ≤ K (d f)
  hi : s < e → e < f → K (d (f - 1)) ≤ K (d s)
/-- turned: both halves are two runs, and nothing on the left is greater than what is on the right -/
theorem CutS.turn {K : Nat → Int} {d : Nat → Nat} {a e b mid s f : Nat} (h : CutS K d a e b mid s f) (h1 : SrtI K d a e) (h2 : SrtI K d e b) :
    SrtI K (rotR d s e f) a s ∧ SrtI K (rotR d s e f) s mid ∧ SrtI K (rotR d s e f) mid f ∧ SrtI K (rotR d s e f) f b ∧ (∀ x y, a ≤ x → x < mid → mid ≤ y → y < b → K (rotR d s e f x) ≤ K (rotR d s e f y)) ∧ a ≤ mid ∧ mid ≤ b := by
  obtain ⟨has, se, ef, fb, mm, lo, hi⟩ := h
  have r1 : ∀ x, x < s → rotR d s e f x = d x := fun x hx => by unfold rotR; rw [if_neg (by omega), if_neg (by omega)]
  have r2 : ∀ x, s ≤ x → x < mid → rotR d s e f x = d (x - s + e) := fun x h1 h2 => by unfold rotR; rw [if_pos (by omega)]
  have r3 : ∀ x, mid ≤ x → x < f → rotR d s e f x = d (x - (f - e)) := fun x h1 h2 => by unfold rotR; rw [if_neg (by omega), if_pos (by omega)]
  have r4 : ∀ x, f ≤ x → rotR d s e f x = d x := fun x hx => by unfold rotR; rw [if_neg (by omega), if_neg (by omega)]
  have le1 : ∀ x y, a ≤ x → x ≤ y → y < e → K (d x) ≤ K (d y) := fun x y g1 g2 g3 => by
    by_cases e0 : x = y
    · rw [e0]; exact Int.le_refl _
    · exact h1 x y g1 (by omega) g3
  have le2 : ∀ x y, e ≤ x → x ≤ y → y < b → K (d x) ≤ K (d y) := fun x y g1 g2 g3 => by
    by_cases e0 : x = y
    · rw [e0]; exact Int.le_refl _
    · exact h2 x y g1 (by omega) g3
  refine ⟨fun x y g1 g2 g3 => ?_, fun x y g1 g2 g3 => ?_, fun x y g1 g2 g3 => ?_, fun x y g1 g2 g3 => ?_, fun x y g1 g2 g3 g4 => ?_, by omega, by omega⟩
  · rw [r1 x (by omega), r1 y g3]; exact le1 x y g1 (by omega) (by omega)
  · rw [r2 x g1 (by omega), r2 y (by omega) g3]; exact le2 _ _ (by omega) (by omega) (by omega)
  · rw [r3 x g1 (by omega), r3 y (by omega) g3]; exact le1 _ _ (by omega) (by omega) (by omega)
  · rw [r4 x g1, r4 y (by omega)]; exact le2 _ _ (by omega) (by omega) g3
  · by_cases c1 : x < s
    · rw [r1 x c1]
      by_cases c2 : y < f
      · rw [r3 y g3 c2]; exact le1 _ _ g1 (by omega) (by omega)
      · rw [r4 y (by omega)]
        exact Int.le_trans (le1 x (s - 1) g1 (by omega) (by omega)) (Int.le_trans (lo (by omega) (by omega)) (le2 f y ef (by omega) g4))
    · rw [r2 x (by omega) g2]
      by_cases c2 : y < f
      · rw [r3 y g3 c2]
        exact Int.le_trans (le2 _ (f - 1) (by omega) (by omega) (by omega)) (Int.le_trans (hi (by omega) (by omega)) (le1 s _ has (by omega) (by omega)))
      · rw [r4 y (by omega)]
        exact le2 _ _ (by omega) (by omega) g4
/-- two halves, each sorted, and apart -/
theorem halves_srt {K : Nat → Int} {d d2 d3 : Nat → Nat} {a mid b : Nat} (hx : ∀ x y, a ≤ x → x < mid → mid ≤ y → y < b → K (d x) ≤ K (d y)) (s2 : SameI d d2 a mid) (h2 : SrtI K d2 a mid) (s3 : SameI d2 d3 mid b) (h3 : SrtI K d3 mid b) : SrtI K d3 a b := by
  intro x y g1 g2 g3
  by_cases c1 : y < mid
  · rw [s3.1 x (.inl (by omega)), s3.1 y (.inl c1)]
    exact h2 x y g1 g2 c1
  · by_cases c2 : mid ≤ x
    · exact h3 x y c2 g2 g3
    · rw [s3.1 x (.inl (by omega))]
      obtain ⟨j, j1, j2, j3⟩ := s3.mem (i := y) (by omega) g3
      obtain ⟨i, i1, i2, i3⟩ := s2.mem (i := x) g1 (by omega)
      rw [j3, i3, s2.1 j (.inr j1)]
      exact hx i j i1 i2 j1 j2
theorem runs_srt {K : Nat → Int} {d : Nat → Nat} {a s m : Nat} (h1 : SrtI K d a s) (h2 : SrtI K d s m) (h : ¬ (a < s ∧ s < m)) (ha : a ≤ s) : SrtI K d a m := by
  intro x y g1 g2 g3
  by_cases c : a < s
  · exact h1 x y g1 g2 (by omega)
  · obtain rfl : a = s := by omega
    exact h2 x y g1 g2 g3
/-- the search: how far the left run stays -/
structure Seek (K : Nat → Int) (d : Nat → Nat) (s0 r0 p s r : Nat) : Prop where
  s0s : s0 ≤ s
  sr : s ≤ r
  rr0 : r ≤ r0
  lo : ∀ x, s0 ≤ x → x < s → K (d x) ≤ K (d (p - x))
  hi : ∀ x, r ≤ x → x < r0 → K (d (p - x)) < K (d x)
/-- its bounds -/
def sek (a e b : Nat) : Nat × Nat := if (a + b) / 2 < e then ((a + b) / 2 + e - b, (a + b) / 2) else (a, e)
theorem sek_in {a e b : Nat} (h1 : a < e) (h2 : e < b) : a ≤ (sek a e b).1 ∧ (sek a e b).1 ≤ (sek a e b).2 ∧ (sek a e b).2 ≤ e ∧ e ≤ (a + b) / 2 + e - (sek a e b).2 ∧ (a + b) / 2 + e - (sek a e b).1 ≤ b := by
  unfold sek
  split <;> simp only [] <;> omega
theorem Seek.left {K : Nat → Int} {d : Nat → Nat} {a e b s r c : Nat} (hab : a < e ∧ e < b) (h1 : SrtI K d a e) (h2 : SrtI K d e b) (h : Seek K d (sek a e b).1 (sek a e b).2 ((a + b) / 2 + e - 1) s r) (hc : s ≤ c) (hcr : c < r) (hk : K (d c) ≤ K (d ((a + b) / 2 + e - 1 - c))) : Seek K d (sek a e b).1 (sek a e b).2 ((a + b) / 2 + e - 1) (c + 1) r := by
  obtain ⟨b1, b2, b3, b4, b5⟩ := sek_in hab.1 hab.2
  refine ⟨by have := h.s0s; omega, by omega, h.rr0, fun x g1 g2 => ?_, h.hi⟩
  have hr := h.rr0
  by_cases e0 : x = c
  · rw [e0]; exact hk
  · have k1 := h1 x c (by omega) (by omega) (by omega)
    have k2 := h2 ((a + b) / 2 + e - 1 - c) ((a + b) / 2 + e - 1 - x) (by omega) (by omega) (by omega)
    omega
theorem Seek.right {K : Nat → Int} {d : Nat → Nat} {a e b s r c : Nat} (hab : a < e ∧ e < b) (h1 : SrtI K d a e) (h2 : SrtI K d e b) (h : Seek K d (sek a e b).1 (sek a e b).2 ((a + b) / 2 + e - 1) s r) (hc : s ≤ c) (hcr : c < r) (hk : K (d ((a + b) / 2 + e - 1 - c)) < K (d c)) : Seek K d (sek a e b).1 (sek a e b).2 ((a + b) / 2 + e - 1) s c := by
  obtain ⟨b1, b2, b3, b4, b5⟩ := sek_in hab.1 hab.2
  have hr := h.rr0
  have hs := h.s0s
  refine ⟨hs, hc, by omega, h.lo, fun x g1 g2 => ?_⟩
  by_cases e0 : x = c
  · rw [e0]; exact hk
  · have k1 := h1 c x (by omega) (by omega) (by omega)
    have k2 := h2 ((a + b) / 2 + e - 1 - x) ((a + b) / 2 + e - 1 - c) (by omega) (by omega) (by omega)
    omega
theorem Seek.cut {K : Nat → Int} {d : Nat → Nat} {a e b s : Nat} (hab : a < e ∧ e < b) (h : Seek K d (sek a e b).1 (sek a e b).2 ((a + b) / 2 + e - 1) s s) : CutS K d a e b ((a + b) / 2) s ((a + b) / 2 + e - s) := by
  obtain ⟨b1, b2, b3, b4, b5⟩ := sek_in hab.1 hab.2
  have h1 := h.s0s
  have h2 := h.rr0
  refine ⟨by omega, by omega, by omega, by omega, by omega, fun g1 g2 => ?_, fun g1 g2 => ?_⟩
  · have h3 : (sek a e b).1 < s := by
      by_cases c : (sek a e b).1 = s
      · exfalso
        unfold sek at c
        split at c <;> simp only [] at c <;> omega
      · omega
    have := h.lo (s - 1) (by omega) (by omega)
    rw [show (a + b) / 2 + e - 1 - (s - 1) = (a + b) / 2 + e - s by omega] at this
    exact this
  · have h3 : s < (sek a e b).2 := by
      by_cases c : s = (sek a e b).2
      · exfalso
        unfold sek at c
        split at c <;> simp only [] at c <;> omega
      · omega
    have := h.hi s (Nat.le_refl _) h3
    rw [show (a + b) / 2 + e - 1 - s = (a + b) / 2 + e - s - 1 by omega] at this
    exact Int.le_of_lt this
end Go.Proofs.Ytfnjjeopojdnjaa
