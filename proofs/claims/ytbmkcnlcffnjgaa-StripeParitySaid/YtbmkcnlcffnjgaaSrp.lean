/-
  STRIPES, WITHOUT ANY PROGRAM: the byte that follows a word, told by it; words that are added; what a byte alone in its word comes to. No conditions.
-/
import Derived.Test.YtbmkcnlcffnjgaaLaw04a
namespace Go.Proofs.Ytbmkcnlcffnjgaa
set_option linter.unusedVariables false

/-- x is the j-th byte that follows a word of n bytes -/
def ParAt (n : Nat) (l : List F) (j : Nat) (x : F) : Prop := ∃ T, Tells n l T ∧ ev T (plI (n + j)) = x
theorem ParAt.unique {n : Nat} {l : List F} {j : Nat} {x y : F} (hn : n ≤ 256) (h : ParAt n l j x) (h' : ParAt n l j y) : x = y := by
  obtain ⟨T, h1, h2⟩ := h
  obtain ⟨T', h3, h4⟩ := h'
  rw [← h2, ← h4, h1.unique hn h3]
theorem ParAt.of {n k : Nat} {l T : List F} (h : Tells n l T) {j : Nat} (hj : j < k) : ParAt n l j (gt (vals T n k) j) := ⟨T, h, by rw [gt_vals, if_pos hj]⟩
theorem Tells.congr {n : Nat} {l m T : List F} (h : Tells n l T) (e : ∀ i, i < n → gt l i = gt m i) : Tells n m T := ⟨h.tt, h.le, fun i hi => by
  rw [h.val i hi]
  rw [mkF_length] at hi
  exact e i hi⟩
theorem ParAt.congr {n : Nat} {l m : List F} {j : Nat} {x : F} (h : ParAt n l j x) (e : ∀ i, i < n → gt l i = gt m i) : ParAt n m j x := by
  obtain ⟨T, h1, h2⟩ := h
  exact ⟨T, h1.congr e, h2⟩
theorem Tells.add {n : Nat} {a b Ta Tb : List F} (ha : Tells n a Ta) (hb : Tells n b Tb) : Tells n (mkF (fun i => gt a i + gt b i) n) (tr (padd Ta Tb)) :=
  ⟨tr_tr _, by
    have h1 := tr_le (padd Ta Tb)
    rw [padd_length] at h1
    have h2 := ha.le
    have h3 := hb.le
    omega, fun i hi => by
    rw [ev_tr, ev_padd, ha.val i hi, hb.val i hi]
    rw [mkF_length] at hi
    rw [gt_mkF, if_pos hi]⟩
theorem ParAt.add {n : Nat} {a b : List F} {j : Nat} {x y : F} (ha : ParAt n a j x) (hb : ParAt n b j y) : ParAt n (mkF (fun i => gt a i + gt b i) n) j (x + y) := by
  obtain ⟨Ta, h1, h2⟩ := ha
  obtain ⟨Tb, h3, h4⟩ := hb
  exact ⟨_, h1.add h3, by rw [ev_tr, ev_padd, h2, h4]⟩
theorem gt_rep23 (n i : Nat) : gt (List.replicate n 0) i = 0 := by
  by_cases h : i < n
  · rw [gt_lt (by simpa using h), List.getElem_replicate]
  · exact gt_ge (by simp; omega)
theorem Tells.nought (n : Nat) : Tells n (List.replicate n 0) [] := ⟨rfl, Nat.zero_le _, fun i hi => by
  rw [gt_rep23]
  rfl⟩
theorem ParAt.nought (n j : Nat) : ParAt n (List.replicate n 0) j 0 := ⟨[], Tells.nought n, rfl⟩
/-- a byte alone in its word -/
def alone (n i : Nat) (v : F) : List F := mkF (fun r => if r = i then v else 0) n
theorem gt_alone (n i : Nat) (v : F) (r : Nat) : gt (alone n i v) r = if r < n then if r = i then v else 0 else 0 := gt_mkF _ _ _
/-- the row of columns at a place -/
def rowAt (R : Nat → List F) (n at_ : Nat) : List F := mkF (fun i => gt (R i) at_) n
theorem gt_rowAt (R : Nat → List F) (n a r : Nat) : gt (rowAt R n a) r = if r < n then gt (R r) a else 0 := gt_mkF _ _ _
/-- its first i bytes -/
def rowTo (R : Nat → List F) (n at_ i : Nat) : List F := mkF (fun r => if r < i then gt (R r) at_ else 0) n
theorem gt_rowTo (R : Nat → List F) (n a i r : Nat) : gt (rowTo R n a i) r = if r < n then if r < i then gt (R r) a else 0 else 0 := gt_mkF _ _ _
theorem rowTo_none (R : Nat → List F) (n a j : Nat) : ParAt n (rowTo R n a 0) j 0 := (ParAt.nought n j).congr fun i hi => by
  rw [gt_rowTo, if_pos hi, if_neg (by omega), gt_rep23]
theorem rowTo_all {R : Nat → List F} {n a j : Nat} {x : F} (h : ParAt n (rowTo R n a n) j x) : ParAt n (rowAt R n a) j x := h.congr fun i hi => by
  rw [gt_rowTo, if_pos hi, if_pos hi, gt_rowAt, if_pos hi]
theorem F_zero_add (x : F) : (0 : F) + x = x := zero_add x
theorem rowTo_step {R : Nat → List F} {n a i j : Nat} {x s : F} (hi : i < n) (h : ParAt n (rowTo R n a i) j x) (hs : ParAt n (alone n i (gt (R i) a)) j s) : ParAt n (rowTo R n a (i + 1)) j (x + s) := (h.add hs).congr fun r hr => by
  rw [gt_mkF, if_pos hr, gt_rowTo, if_pos hr, gt_alone, if_pos hr, gt_rowTo, if_pos hr]
  by_cases e : r = i
  · subst e
    rw [if_neg (by omega), if_pos rfl, if_pos (by omega), F_zero_add]
  · rw [if_neg e, add_zero]
    by_cases e2 : r < i
    · rw [if_pos e2, if_pos (by omega)]
    · rw [if_neg e2, if_neg (by omega)]
theorem bits_add : ∀ b, b < 8 → ∀ v, v < 128 → v < 2 ^ b → ofN (2 ^ b + v) = ofN v + ofN (2 ^ b) := by decide
theorem alone_step {n i j b v : Nat} {x y : F} (hb : b < 8) (hv : v < 2 ^ b) (h : ParAt n (alone n i (ofN v)) j x) (hs : ParAt n (alone n i (ofN (2 ^ b))) j y) : ParAt n (alone n i (ofN (2 ^ b + v))) j (x + y) := (h.add hs).congr fun r hr => by
  rw [gt_mkF, if_pos hr, gt_alone, if_pos hr, gt_alone, if_pos hr, gt_alone, if_pos hr]
  by_cases e : r = i
  · rw [if_pos e, if_pos e, if_pos e, bits_add b hb v (Nat.lt_of_lt_of_le hv (by have := Nat.pow_le_pow_right (n := 2) (by omega) (show b ≤ 7 by omega); omega)) hv]
  · rw [if_neg e, if_neg e, if_neg e, F_zero_add]
theorem alone_none (n i j : Nat) : ParAt n (alone n i (ofN 0)) j 0 := (ParAt.nought n j).congr fun r hr => by
  rw [gt_alone, if_pos hr, gt_rep23]
  by_cases e : r = i
  · rw [if_pos e]; rfl
  · rw [if_neg e]
end Go.Proofs.Ytbmkcnlcffnjgaa
