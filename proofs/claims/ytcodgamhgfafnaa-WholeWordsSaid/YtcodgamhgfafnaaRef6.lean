/-
  THE DOCUMENT's OWN ANSWERS FOR LAYER 4: Word, Of, May, Fill. Words of at most 2^16 bytes.
-/
import Derived.Test.YtcodgamhgfafnaaLaw04a
import Derived.Test.YtcodgamhgfafnaaRef5
namespace Go.Proofs.Ytcodgamhgfafnaa
open Go.RowKit
set_option maxRecDepth 100000
set_option linter.unusedVariables false

theorem mkF_snoc (f : Nat → F) (k : Nat) : mkF f (k + 1) = mkF f k ++ [f k] := by
  refine ext_gt (by simp [mkF_length]) fun i hi => ?_
  rw [mkF_length] at hi
  rw [gt_mkF, if_pos hi]
  by_cases h : i < k
  · rw [gt_lt (by simp [mkF_length]; omega), List.getElem_append_left (by rw [mkF_length]; exact h)]
    have := gt_mkF f k i
    rw [if_pos h, gt_lt (by rw [mkF_length]; exact h)] at this
    exact this.symm
  · obtain rfl : i = k := by omega
    rw [gt_lt (by simp [mkF_length])]
    simp [mkF_length]
theorem vals_snoc (T : List F) (k : Nat) : vals T 0 (k + 1) = vals T 0 k ++ [ev T (plI k)] := by
  have h := mkF_snoc (fun i => ev T (plI (0 + i))) k
  rw [Nat.zero_add] at h
  exact h
theorem own_caps4 {w : World} {base n c g : Nat} {e : TypeId} {xs : List Value} (h : w.ownsRow base e 1 (.slice (some ⟨g, 0, none⟩) n c) n xs) : n ≤ c ∧ c ≤ maxLen := by
  rcases h.2 with ⟨e, _⟩ | ⟨g', cap', cur, e, _, _, h1, h2, _⟩
  · injection e with e; cases e
  · injection e with _ _ e; subst e; exact ⟨h1, h2⟩
theorem own_RowIn {w : World} {base n c g : Nat} {l : List F} (h : w.ownsRow base 5 1 (.slice (some ⟨g, 0, none⟩) n c) n (cs l)) : RowIn w (some ⟨g, 0, none⟩) n c l := ⟨Row.of_own h, (own_caps4 h).1, (own_caps4 h).2⟩
/-- so far as it has gone: the places and the bytes at them, in two rows of the call's own -/
structure Two4 (w wr : World) (l : List F) (th : List Bool) (n k gX cX gY cY t : Nat) : Prop where
  len : Hid (t = (fth th n k).length)
  X : wr.ownsRow w.heap.size 5 1 (.slice (some ⟨gX, 0, none⟩) t cX) t (cs (thX th n k))
  Y : wr.ownsRow w.heap.size 5 1 (.slice (some ⟨gY, 0, none⟩) t cY) t (cs (thY l th n k))
  ne : Hid (gX ≠ gY)
  bel : Below w.heap.size w wr
end Go.Proofs.Ytcodgamhgfafnaa
