/-
  VOLUMES THAT ARE FILLED, WITHOUT ANY PROGRAM: those ahead, and the last one. No conditions.
-/
import Derived.Test.YtkijagodedmipaaBase
namespace Go.Proofs.Ytkijagodedmipaa
open Go.RowKit
set_option linter.unusedVariables false

/-- volumes: those ahead, and the last one -/
structure Vs where
  P : List (List F)
  q : List F
def Vs.all (v : Vs) : List (List F) := v.P ++ [v.q]
def Vs.flat (v : Vs) : List F := v.all.flatten
def vput (S : Nat) (v : Vs) (b : List F) : Vs := if v.q.length + b.length ≤ S then ⟨v.P, v.q ++ b⟩ else ⟨v.P ++ [v.q], b⟩
def vdata (S : Nat) (v : Vs) (b : List F) : Vs := b.foldl (fun v c => vput S v [c]) v
/-- the volume at a place -/
def vrow (v : Vs) (r : Nat) : List F := v.all.getD r []
theorem all_length (v : Vs) : v.all.length = v.P.length + 1 := by simp [Vs.all]
theorem vrow_last (v : Vs) : vrow v v.P.length = v.q := by simp [vrow, Vs.all]
theorem vrow_fit (P : List (List F)) (q q' : List F) {r : Nat} (h : r < P.length) : vrow ⟨P, q'⟩ r = vrow ⟨P, q⟩ r := by
  simp [vrow, Vs.all, List.getElem?_append_left h]
theorem vrow_new (P : List (List F)) (q b : List F) {r : Nat} (h : r < P.length + 1) : vrow ⟨P ++ [q], b⟩ r = vrow ⟨P, q⟩ r := by
  unfold vrow Vs.all
  simp only [List.getD_eq_getElem?_getD]
  rw [List.getElem?_append_left (by simp; omega)]
/-- right volumes: none is empty, none too great -/
structure VOk (S : Nat) (v : Vs) : Prop where
  q1 : 1 ≤ v.q.length
  qS : v.q.length ≤ S
  P : ∀ x ∈ v.P, 1 ≤ x.length ∧ x.length ≤ S
theorem VOk.row {S : Nat} {v : Vs} (h : VOk S v) {r : Nat} (hr : r < v.P.length + 1) : 1 ≤ (vrow v r).length ∧ (vrow v r).length ≤ S := by
  rcases (show r < v.P.length ∨ r = v.P.length by omega) with h1 | h1
  · have e : vrow v r = v.P[r] := by simp [vrow, Vs.all, List.getElem?_append_left h1, h1]
    rw [e]
    exact h.P _ (List.getElem_mem h1)
  · rw [h1, vrow_last]; exact ⟨h.q1, h.qS⟩
theorem VOk.put {S : Nat} {v : Vs} (h : VOk S v) {b : List F} (h1 : 1 ≤ b.length) (hS : b.length ≤ S) : VOk S (vput S v b) := by
  unfold vput
  by_cases e : v.q.length + b.length ≤ S
  · rw [if_pos e]
    exact ⟨by simp; omega, by simp; omega, h.P⟩
  · rw [if_neg e]
    refine ⟨h1, hS, fun x hx => ?_⟩
    rcases List.mem_append.1 hx with hx | hx
    · exact h.P x hx
    · rw [List.mem_singleton.1 hx]; exact ⟨h.q1, h.qS⟩
theorem VOk.data {S : Nat} (hS : 1 ≤ S) : ∀ (b : List F) {v : Vs}, VOk S v → VOk S (vdata S v b)
  | [], _, h => h
  | c :: b, v, h => VOk.data hS b (v := vput S v [c]) (h.put (by simp) (by simpa using hS))
theorem flat_put (S : Nat) (v : Vs) (b : List F) : (vput S v b).flat = v.flat ++ b := by
  unfold vput
  by_cases e : v.q.length + b.length ≤ S
  · rw [if_pos e]; simp [Vs.flat, Vs.all]
  · rw [if_neg e]; simp [Vs.flat, Vs.all]
theorem flat_data (S : Nat) : ∀ (b : List F) (v : Vs), (vdata S v b).flat = v.flat ++ b
  | [], v => by simp [vdata]
  | c :: b, v => by
    show (vdata S (vput S v [c]) b).flat = _
    rw [flat_data S b, flat_put]
    simp
theorem len_flatten : ∀ (P : List (List F)), (∀ x ∈ P, 1 ≤ x.length) → P.length ≤ P.flatten.length
  | [], _ => by simp
  | x :: P, h => by
    have h1 := h x List.mem_cons_self
    have h2 := len_flatten P fun y hy => h y (List.mem_cons_of_mem _ hy)
    rw [List.flatten_cons, List.length_append, List.length_cons]
    omega
theorem VOk.count {S : Nat} {v : Vs} (h : VOk S v) : v.P.length + v.q.length ≤ v.flat.length := by
  have h1 := len_flatten v.P fun x hx => (h.P x hx).1
  have e : v.flat.length = v.P.flatten.length + v.q.length := by simp [Vs.flat, Vs.all]
  omega
theorem vdata_append (S : Nat) (v : Vs) (a b : List F) : vdata S v (a ++ b) = vdata S (vdata S v a) b := by simp [vdata]
theorem vdata_fits (S : Nat) : ∀ (b : List F) (v : Vs), v.q.length + b.length ≤ S → vdata S v b = ⟨v.P, v.q ++ b⟩
  | [], v, _ => by simp [vdata]
  | c :: b, v, h => by
    show vdata S (vput S v [c]) b = _
    have e : vput S v [c] = ⟨v.P, v.q ++ [c]⟩ := if_pos (by simp at h ⊢; omega)
    rw [e, vdata_fits S b _ (by simp at h ⊢; omega)]
    simp
theorem vdata_new (S : Nat) {b : List F} {v : Vs} (hq : v.q.length = S) (h1 : 1 ≤ b.length) (hS : b.length ≤ S) : vdata S v b = ⟨v.P ++ [v.q], b⟩ := by
  cases b with
  | nil => simp at h1
  | cons c b =>
    show vdata S (vput S v [c]) b = _
    have e : vput S v [c] = ⟨v.P ++ [v.q], [c]⟩ := if_neg (by simp; omega)
    rw [e, vdata_fits S b _ (by simp at hS ⊢; omega)]
    simp
/-- a part of data that is put at once -/
theorem vdata_part (S : Nat) {v : Vs} (hq : v.q.length ≤ S) (h1S : 1 ≤ S) {b : List F} {n : Nat} (hn : n = min b.length (S - if v.q.length + 1 ≤ S then v.q.length else 0)) (hb : 1 ≤ b.length) : vdata S v b = vdata S (vput S v (b.take n)) (b.drop n) := by
  have h0 : vdata S v b = vdata S (vdata S v (b.take n)) (b.drop n) := by rw [← vdata_append, List.take_append_drop]
  rw [h0]
  congr 1
  by_cases e : v.q.length + 1 ≤ S
  · rw [if_pos e] at hn
    have hl : (b.take n).length = n := by simp; omega
    rw [vdata_fits S _ v (by omega)]
    exact (if_pos (by omega)).symm
  · rw [if_neg e] at hn
    have hl : (b.take n).length = n := by simp; omega
    rw [vdata_new S (by omega) (by omega) (by omega)]
    exact (if_neg (by omega)).symm
/-- later volumes hold the elder ones -/
def Held (v v' : Vs) : Prop := v.P.length ≤ v'.P.length ∧ ∀ r, r < v.P.length + 1 → vrow v r <+: vrow v' r
theorem Held.refl (v : Vs) : Held v v := ⟨Nat.le_refl _, fun r _ => List.prefix_refl _⟩
theorem Held.trans {a b c : Vs} (h : Held a b) (k : Held b c) : Held a c := ⟨Nat.le_trans h.1 k.1, fun r hr => (h.2 r hr).trans (k.2 r (by have := h.1; omega))⟩
theorem Held.put (S : Nat) (v : Vs) (b : List F) : Held v (vput S v b) := by
  unfold vput
  by_cases e : v.q.length + b.length ≤ S
  · rw [if_pos e]
    refine ⟨Nat.le_refl _, fun r hr => ?_⟩
    rcases (show r < v.P.length ∨ r = v.P.length by omega) with h1 | h1
    · have e2 := vrow_fit v.P v.q (v.q ++ b) h1
      rw [e2]; exact List.prefix_refl _
    · subst h1
      rw [vrow_last]
      show v.q <+: vrow ⟨v.P, v.q ++ b⟩ (Vs.mk v.P (v.q ++ b)).P.length
      rw [vrow_last]
      exact List.prefix_append _ _
  · rw [if_neg e]
    refine ⟨by simp, fun r hr => ?_⟩
    rw [vrow_new _ _ _ hr]; exact List.prefix_refl _
theorem Held.data (S : Nat) : ∀ (b : List F) (v : Vs), Held v (vdata S v b)
  | [], v => Held.refl v
  | c :: b, v => (Held.put S v [c]).trans (Held.data S b _)
/-- where a record stands -/
def vat (S : Nat) (v : Vs) (n : Nat) : Nat × Nat := if v.q.length + n ≤ S then (v.P.length, v.q.length) else (v.P.length + 1, 0)
/-- bytes stand at a place -/
def Stands (v : Vs) (d o : Nat) (b : List F) : Prop := d < v.P.length + 1 ∧ o + b.length ≤ (vrow v d).length ∧ ((vrow v d).drop o).take b.length = b
theorem Stands.held {v v' : Vs} {d o : Nat} {b : List F} (h : Stands v d o b) (k : Held v v') : Stands v' d o b := by
  obtain ⟨h1, h2, h3⟩ := h
  obtain ⟨t, ht⟩ := k.2 d h1
  refine ⟨by have := k.1; omega, by rw [← ht]; simp; omega, ?_⟩
  rw [← ht, List.drop_append_of_le_length (by omega), List.take_append_of_le_length (by simp; omega)]
  exact h3
theorem Stands.put (S : Nat) (v : Vs) (b : List F) : Stands (vput S v b) (vat S v b.length).1 (vat S v b.length).2 b := by
  unfold vput vat
  by_cases e : v.q.length + b.length ≤ S
  · rw [if_pos e, if_pos e]
    have h1 : vrow ⟨v.P, v.q ++ b⟩ v.P.length = v.q ++ b := vrow_last ⟨v.P, v.q ++ b⟩
    refine ⟨by simp, ?_, ?_⟩
    · simp only [h1]; simp
    · simp only [h1]; simp
  · rw [if_neg e, if_neg e]
    have h1 : vrow ⟨v.P ++ [v.q], b⟩ (v.P.length + 1) = b := by
      have := vrow_last ⟨v.P ++ [v.q], b⟩
      simpa using this
    refine ⟨by simp, ?_, ?_⟩
    · simp only [h1]; simp
    · simp only [h1]; simp
end Go.Proofs.Ytkijagodedmipaa
