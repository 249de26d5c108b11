/-
  THE DOCUMENT's OWN Reduce OF ROWS: it is what Reduce answers. Rows and columns of at most 2^30.
-/
import Derived.Test.YtciljflnhleocaaLaw03i
namespace Go.Proofs.Ytciljflnhleocaa
open Go.RowKit
set_option maxRecDepth 100000
set_option linter.unusedVariables false

theorem Out.toGrown {b : Nat} {w w' : World} (h : Out b (b + 1) w w') : w.grownBy w' (some b) := ⟨h.os, h.tape, h.output, h.size, fun k hk hne => h.block k hk (by
  by_cases e : k = b
  · exact absurd (by rw [e]) hne
  · omega)⟩
theorem Out.self {w w' : World} {b : Nat} (h : w.grownBy w' (some b)) : Out b (b + 1) w w' := Out.ofGrown h ⟨Nat.le_refl _, Nat.lt_succ_self _⟩
theorem Out.wide {w w' : World} {b lo hi : Nat} (h : Out b (b + 1) w w') (hb : lo ≤ b ∧ b < hi) : Out lo hi w w' := ⟨h.os, h.tape, h.output, h.size, fun k hk ho => h.block k hk (by omega)⟩
/-- the top told otherwise, the rows told anew -/
theorem Mat.retop2 {w w' : World} {lo hi g n C : Nat} {K G : Nat → Nat} {M M' : Nat → Nat → F} (h : Mat w lo hi g n C K G M) {a b : Nat} (ha : a < n) (hb : b < n) (hs : w.heap.size ≤ w'.heap.size)
    (hr : ∀ s, s < n → RowV w' (G s) C fun j => .int .u8 (M' s j).n)
    (ht : RowV w' g n fun r => .slice (some ⟨swp G a b r, 0, none⟩) C (swp K a b r)) : Mat w' lo hi g n C (swp K a b) (swp G a b) (swp M' a b) := by
  have key : ∀ r, r < n → ∃ s, s < n ∧ swp G a b r = G s ∧ swp K a b r = K s ∧ swp M' a b r = M' s ∧ (if r = a then b else if r = b then a else r) = s := fun r hr => by
    unfold swp
    by_cases h1 : r = a
    · simp only [if_pos h1]; exact ⟨b, hb, rfl, rfl, rfl, rfl⟩
    · by_cases h2 : r = b
      · simp only [if_neg h1, if_pos h2]; exact ⟨a, ha, rfl, rfl, rfl, rfl⟩
      · simp only [if_neg h1, if_neg h2]; exact ⟨r, hr, rfl, rfl, rfl, rfl⟩
  refine ⟨ht, fun r hr2 => ?_, fun r s hr2 hs2 e => ?_, fun r hr2 => ?_, h.glo, fun r hr2 => ?_, fun r hr2 => ?_, h.nmax, Nat.le_trans h.hle hs⟩
  · obtain ⟨s, hs, e1, _, e3, _⟩ := key r hr2
    rw [e1, e3]
    exact hr s hs
  · obtain ⟨r', hr', e1, _, _, f1⟩ := key r hr2
    obtain ⟨s', hs', e2, _, _, f2⟩ := key s hs2
    rw [e1, e2] at e
    have e3 := h.inj _ _ hr' hs' e
    rw [← f1, ← f2] at e3
    clear f1 f2 e1 e2
    repeat' split at e3
    all_goals omega
  · obtain ⟨s, hs, e1, _⟩ := key r hr2
    rw [e1]; exact h.gne s hs
  · obtain ⟨s, hs, e1, _⟩ := key r hr2
    rw [e1]; exact h.rlo s hs
  · obtain ⟨s, hs, _, e2, _⟩ := key r hr2
    rw [e2]; exact h.cap s hs
/-- the row that came up, divided, stands where it is wanted; the other one where it stood -/
def scM (M : Nat → Nat → F) (pos up col : Nat) : Nat → Nat → F := swp (fun i => if i = up then (fun j => M up j * inv (M up col)) else M i) pos up
/-- so far as the rows ahead of k are taken from -/
def elTo (M : Nat → Nat → F) (pos col k : Nat) : Nat → Nat → F := fun i => if i < k ∧ i ≠ pos then (fun j => M i j + M i col * M pos j) else M i
theorem elTo_zero (M : Nat → Nat → F) (pos col : Nat) : elTo M pos col 0 = M := by
  funext i
  exact if_neg (by omega)
theorem elTo_next (M : Nat → Nat → F) {pos col k : Nat} (hk : k ≠ pos) : elTo M pos col (k + 1) = fun s => if s = k then (fun j => M k j + M k col * M pos j) else elTo M pos col k s := by
  funext i
  unfold elTo
  by_cases h : i = k
  · subst h
    rw [if_pos ⟨by omega, hk⟩, if_pos rfl]
  · rw [if_neg h]
    by_cases h2 : i < k ∧ i ≠ pos
    · rw [if_pos h2, if_pos ⟨by omega, h2.2⟩]
    · rw [if_neg h2, if_neg (fun e => h2 ⟨by omega, e.2⟩)]
theorem elTo_pos (M : Nat → Nat → F) (pos col : Nat) : elTo M pos col (pos + 1) = elTo M pos col pos := by
  funext i
  unfold elTo
  by_cases h2 : i < pos ∧ i ≠ pos
  · rw [if_pos h2, if_pos ⟨by omega, h2.2⟩]
  · rw [if_neg h2, if_neg (fun e => h2 ⟨by omega, e.2⟩)]
theorem elTo_here (M : Nat → Nat → F) (pos col k : Nat) : elTo M pos col k k = M k := if_neg (by omega)
theorem elTo_row (M : Nat → Nat → F) (pos col k : Nat) : elTo M pos col k pos = M pos := if_neg (by omega)
theorem elim_el (M : Nat → Nat → F) {pos up col n : Nat} : ∀ i, i < n → ∀ j, elTo (scM M pos up col) pos col n i j = elim M pos up col i j := fun i hi j => by
  unfold elTo elim
  have e0 : scM M pos up col pos = fun j => M up j * inv (M up col) := by
    unfold scM swp
    rw [if_pos rfl]
    exact if_pos rfl
  by_cases h : i = pos
  · subst h
    rw [if_neg (by omega), if_pos rfl, e0]
  · rw [if_pos ⟨hi, h⟩, if_neg h, e0]
    have e1 : scM M pos up col i = if i = up then M pos else M i := by
      unfold scM swp
      rw [if_neg h]
      by_cases h2 : i = up
      · rw [if_pos h2, if_pos h2]
        by_cases h3 : pos = up
        · exact absurd (h2.trans h3.symm) h
        · exact if_neg h3
      · rw [if_neg h2, if_neg h2]
        exact if_neg h2
    rw [e1]
    by_cases h2 : i = up
    · rw [if_pos h2, if_pos h2, if_pos h2]
    · rw [if_neg h2, if_neg h2, if_neg h2]
end Go.Proofs.Ytciljflnhleocaa
