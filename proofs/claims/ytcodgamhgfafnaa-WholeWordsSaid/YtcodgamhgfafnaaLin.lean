/-
  EQUATIONS OVER THE FIELD OF BYTES, WITHOUT ANY PROGRAM: matrices as maps of two places, how they are reduced, what stays. No conditions.
-/
import Derived.Test.YtcodgamhgfafnaaPl2
namespace Go.Proofs.Ytcodgamhgfafnaa
set_option linter.unusedVariables false

/-- the sum of a row's products with x, of N columns -/
def dt (N : Nat) (r x : Nat → F) : F := sm N fun j => r j * x j
theorem dt_congr {N : Nat} {r r' x x' : Nat → F} (h : ∀ j, j < N → r j = r' j) (hx : ∀ j, j < N → x j = x' j) : dt N r x = dt N r' x' := sm_congr fun j hj => by rw [h j hj, hx j hj]
theorem dt_add_right (N : Nat) (r x y : Nat → F) : dt N r (fun j => x j + y j) = dt N r x + dt N r y := by
  unfold dt
  rw [← sm_add]
  exact sm_congr fun j _ => mul_add _ _ _
theorem dt_mul_right (N : Nat) (r x : Nat → F) (c : F) : dt N r (fun j => c * x j) = c * dt N r x := by
  unfold dt
  rw [← sm_mul]
  exact sm_congr fun j _ => mul_left_comm _ _ _
theorem dt_add_left (N : Nat) (r s x : Nat → F) : dt N (fun j => r j + s j) x = dt N r x + dt N s x := by
  unfold dt
  rw [← sm_add]
  exact sm_congr fun j _ => add_mul _ _ _
theorem dt_mul_left (N : Nat) (r x : Nat → F) (c : F) : dt N (fun j => r j * c) x = c * dt N r x := by
  unfold dt
  rw [← sm_mul]
  exact sm_congr fun j _ => by
    show r j * c * x j = c * (r j * x j)
    rw [mul_comm (r j) c, mul_assoc]
theorem dt_axpy (N : Nat) (r s x : Nat → F) (c : F) : dt N (fun j => r j + c * s j) x = dt N r x + c * dt N s x := by
  rw [dt_add_left N r (fun j => c * s j) x]
  congr 1
  rw [← dt_mul_left]
  exact dt_congr (fun j _ => mul_comm _ _) (fun _ _ => rfl)
theorem dt_zero_left (N : Nat) (r x : Nat → F) (h : ∀ j, j < N → r j * x j = 0) : dt N r x = 0 := (sm_congr h).trans (sm_zero N)
/-- a unit to a column -/
def eU (c : Nat) : Nat → F := fun j => if j = c then 1 else 0
theorem dt_unit {N c : Nat} (r : Nat → F) (h : c < N) : dt N r (eU c) = r c :=
  sm_one N c _ _ h (fun i _ hne => by unfold eU; rw [if_neg hne, mul_zero]) (by unfold eU; rw [if_pos rfl, mul_one])

/-- the first row from 'at' on, of n, that isn't 0 at the column -/
def fstNZ (M : Nat → Nat → F) (n col pos : Nat) : Option Nat := (List.range n).find? fun i => decide (pos ≤ i ∧ M i col ≠ 0)
theorem fstNZ_some {M : Nat → Nat → F} {n col pos up : Nat} (h : fstNZ M n col pos = some up) : pos ≤ up ∧ up < n ∧ M up col ≠ 0 ∧ ∀ i, pos ≤ i → i < up → M i col = 0 := by
  unfold fstNZ at h
  rw [List.find?_range_eq_some] at h
  obtain ⟨h1, h2, h3⟩ := h
  rw [decide_eq_true_iff] at h1
  refine ⟨h1.1, by simpa using h2, h1.2, fun i hi hlt => ?_⟩
  have h4 := h3 i hlt
  simp only [Bool.not_eq_true', decide_eq_false_iff_not] at h4
  by_cases e : M i col = 0
  · exact e
  · exact absurd ⟨hi, e⟩ h4
theorem fstNZ_none {M : Nat → Nat → F} {n col pos : Nat} (h : fstNZ M n col pos = none) : ∀ i, pos ≤ i → i < n → M i col = 0 := by
  unfold fstNZ at h
  rw [List.find?_eq_none] at h
  intro i hi hn
  have h4 := h i (by simpa using hn)
  rw [decide_eq_true_iff] at h4
  by_cases e : M i col = 0
  · exact e
  · exact absurd ⟨hi, e⟩ h4
theorem fstNZ_at {M : Nat → Nat → F} {n col pos up : Nat} (h1 : pos ≤ up) (h2 : up < n) (h3 : M up col ≠ 0) (h4 : ∀ i, pos ≤ i → i < up → M i col = 0) : fstNZ M n col pos = some up := by
  unfold fstNZ
  rw [List.find?_range_eq_some]
  refine ⟨decide_eq_true ⟨h1, h3⟩, by simpa using h2, fun j hj => ?_⟩
  simp only [Bool.not_eq_true', decide_eq_false_iff_not]
  exact fun h => h.2 (h4 j h.1 hj)
theorem fstNZ_empty {M : Nat → Nat → F} {n col pos : Nat} (h : ∀ i, pos ≤ i → i < n → M i col = 0) : fstNZ M n col pos = none := by
  unfold fstNZ
  rw [List.find?_eq_none]
  intro i hi
  rw [decide_eq_true_iff]
  exact fun h2 => h2.2 (h i h2.1 (by simpa using hi))

/-- row up comes up to 'pos', is divided, and taken from all others -/
def elim (M : Nat → Nat → F) (pos up col : Nat) : Nat → Nat → F := fun i j =>
  if i = pos then M up j * inv (M up col)
  else (if i = up then M pos j else M i j) + (if i = up then M pos col else M i col) * (M up j * inv (M up col))
/-- reduced by the first c columns; the pivots' columns -/
def redTo (M : Nat → Nat → F) (n : Nat) : Nat → (Nat → Nat → F) × List Nat
  | 0 => (M, [])
  | c + 1 => match fstNZ (redTo M n c).1 n c (redTo M n c).2.length with
    | none => redTo M n c
    | some up => (elim (redTo M n c).1 (redTo M n c).2.length up c, (redTo M n c).2 ++ [c])

/-- x comes to nothing by all rows -/
def Ker (n N : Nat) (M : Nat → Nat → F) (x : Nat → F) : Prop := ∀ i, i < n → dt N (M i) x = 0
theorem ker_elim {n N : Nat} {M : Nat → Nat → F} {pos up col : Nat} (hp : pos < n) (hu : up < n) (hne : M up col ≠ 0) (x : Nat → F) : Ker n N (elim M pos up col) x ↔ Ker n N M x := by
  have e1 : dt N (elim M pos up col pos) x = inv (M up col) * dt N (M up) x := by
    rw [← dt_mul_left]
    exact dt_congr (fun j _ => by unfold elim; rw [if_pos rfl]) (fun _ _ => rfl)
  have e2 : ∀ i, i ≠ pos → dt N (elim M pos up col i) x = dt N (if i = up then M pos else M i) x + (if i = up then M pos col else M i col) * dt N (elim M pos up col pos) x := fun i hi => by
    rw [← dt_axpy]
    refine dt_congr (fun j _ => ?_) (fun _ _ => rfl)
    unfold elim
    rw [if_neg hi, if_pos rfl]
    congr 1
    split <;> rfl
  constructor
  · intro h
    have h1 : dt N (M up) x = 0 := by
      have := h pos hp
      rw [e1] at this
      exact (mul_eq_zero.1 this).resolve_left (inv_ne_zero hne)
    have h2 : ∀ i, i < n → i ≠ pos → dt N (if i = up then M pos else M i) x = 0 := fun i hi hip => by
      have h3 := h i hi
      rw [e2 i hip, h pos hp, mul_zero, add_zero] at h3
      exact h3
    intro i hi
    by_cases hiu : i = up
    · subst hiu; exact h1
    · by_cases hip : i = pos
      · subst hip
        have h3 := h2 up hu (fun e => hiu e.symm)
        rw [if_pos rfl] at h3
        exact h3
      · have h3 := h2 i hi hip
        rw [if_neg hiu] at h3
        exact h3
  · intro h i hi
    have h1 : dt N (elim M pos up col pos) x = 0 := by rw [e1, h up hu, mul_zero]
    by_cases hip : i = pos
    · subst hip; exact h1
    · rw [e2 i hip, h1, mul_zero, add_zero]
      split
      · exact h pos hp
      · exact h i hi

/-- what is so of a matrix that is reduced by its first c columns -/
structure Rref (n c : Nat) (M : Nat → Nat → F) (ps : List Nat) : Prop where
  len : ps.length ≤ n
  inc : ps.Pairwise (· < ·)
  lt : ∀ p ∈ ps, p < c
  one : ∀ k (h : k < ps.length), M k ps[k] = 1
  zer : ∀ k (h : k < ps.length) i, i < n → i ≠ k → M i ps[k] = 0
  low : ∀ i, i < n → ps.length ≤ i → ∀ j, j < c → M i j = 0
  lead : ∀ k (h : k < ps.length) j, j < ps[k] → M k j = 0

theorem Rref.start (n : Nat) (M : Nat → Nat → F) : Rref n 0 M [] := ⟨Nat.zero_le _, List.Pairwise.nil, by simp, fun k h => absurd h (by simp), fun k h => absurd h (by simp), fun i _ _ j hj => by omega, fun k h => absurd h (by simp)⟩
theorem Rref.skip {n c : Nat} {M : Nat → Nat → F} {ps : List Nat} (h : Rref n c M ps) (hz : ∀ i, ps.length ≤ i → i < n → M i c = 0) : Rref n (c + 1) M ps :=
  ⟨h.len, h.inc, fun p hp => by have := h.lt p hp; omega, h.one, h.zer, fun i hi hl j hj => by
    rcases Nat.lt_or_ge j c with h1 | h1
    · exact h.low i hi hl j h1
    · obtain rfl : j = c := by omega
      exact hz i hl hi, h.lead⟩
theorem elim_pos (M : Nat → Nat → F) (pos up col j : Nat) : elim M pos up col pos j = M up j * inv (M up col) := by unfold elim; rw [if_pos rfl]
theorem elim_other (M : Nat → Nat → F) {pos up col i : Nat} (j : Nat) (h : i ≠ pos) : elim M pos up col i j = (if i = up then M pos j else M i j) + (if i = up then M pos col else M i col) * (M up j * inv (M up col)) := by unfold elim; rw [if_neg h]
theorem Rref.step {n c up : Nat} {M : Nat → Nat → F} {ps : List Nat} (h : Rref n c M ps) (h1 : ps.length ≤ up) (h2 : up < n) (h3 : M up c ≠ 0) : Rref n (c + 1) (elim M ps.length up c) (ps ++ [c]) := by
  have hup : ∀ j, j < c → M up j = 0 := fun j hj => h.low up h2 h1 j hj
  have hat : ∀ j, j < c → M ps.length j = 0 := fun j hj => h.low ps.length (by omega) (Nat.le_refl _) j hj
  have hpc : ∀ k (hk : k < ps.length), ps[k] < c := fun k hk => h.lt _ (List.getElem_mem hk)
  have keep : ∀ i j, i ≠ ps.length → j < c → elim M ps.length up c i j = if i = up then 0 else M i j := fun i j hi hj => by
    rw [elim_other M j hi, hup j hj, zero_mul, mul_zero, add_zero, hat j hj]
  have hcol : ∀ i, i ≠ ps.length → elim M ps.length up c i c = 0 := fun i hi => by
    rw [elim_other M c hi, mul_inv h3, mul_one]
    split <;> exact add_self _
  have hl : (ps ++ [c]).length = ps.length + 1 := by simp
  refine ⟨by rw [hl]; omega, ?_, ?_, ?_, ?_, ?_, ?_⟩
  · rw [List.pairwise_append]
    exact ⟨h.inc, by simp, fun a ha b hb => by rw [List.mem_singleton] at hb; subst hb; exact h.lt a ha⟩
  · intro p hp
    rw [List.mem_append, List.mem_singleton] at hp
    rcases hp with hp | hp
    · have := h.lt p hp; omega
    · omega
  · intro k hk
    rw [hl] at hk
    rcases Nat.lt_or_ge k ps.length with hk1 | hk1
    · rw [List.getElem_append_left hk1, keep k _ (by omega) (hpc k hk1), if_neg (by omega)]
      exact h.one k hk1
    · obtain rfl : k = ps.length := by omega
      rw [List.getElem_append_right (Nat.le_refl _)]
      simp only [Nat.sub_self, List.getElem_cons_zero]
      rw [elim_pos, mul_inv h3]
  · intro k hk i hi hik
    rw [hl] at hk
    rcases Nat.lt_or_ge k ps.length with hk1 | hk1
    · rw [List.getElem_append_left hk1]
      by_cases hip : i = ps.length
      · subst hip
        rw [elim_pos, hup _ (hpc k hk1), zero_mul]
      · rw [keep i _ hip (hpc k hk1)]
        split
        · rfl
        · exact h.zer k hk1 i hi hik
    · obtain rfl : k = ps.length := by omega
      rw [List.getElem_append_right (Nat.le_refl _)]
      simp only [Nat.sub_self, List.getElem_cons_zero]
      exact hcol i hik
  · intro i hi hli j hj
    rw [hl] at hli
    rcases Nat.lt_or_ge j c with hj1 | hj1
    · rw [keep i j (by omega) hj1]
      split
      · rfl
      · exact h.low i hi (by omega) j hj1
    · obtain rfl : j = c := by omega
      exact hcol i (by omega)
  · intro k hk j hj
    rw [hl] at hk
    rcases Nat.lt_or_ge k ps.length with hk1 | hk1
    · rw [List.getElem_append_left hk1] at hj
      have := hpc k hk1
      rw [keep k j (by omega) (by omega), if_neg (by omega)]
      exact h.lead k hk1 j hj
    · obtain rfl : k = ps.length := by omega
      rw [List.getElem_append_right (Nat.le_refl _)] at hj
      simp only [Nat.sub_self, List.getElem_cons_zero] at hj
      rw [elim_pos, hup j hj, zero_mul]

theorem redTo_rref (M : Nat → Nat → F) (n c : Nat) : Rref n c (redTo M n c).1 (redTo M n c).2 := by
  induction c with
  | zero => exact Rref.start n M
  | succ c ih =>
    unfold redTo
    cases hf : fstNZ (redTo M n c).1 n c (redTo M n c).2.length with
    | none => exact ih.skip (fstNZ_none hf)
    | some up =>
      obtain ⟨h1, h2, h3, _⟩ := fstNZ_some hf
      exact ih.step h1 h2 h3
theorem redTo_ker (M : Nat → Nat → F) (n c N : Nat) (x : Nat → F) : Ker n N (redTo M n c).1 x ↔ Ker n N M x := by
  induction c with
  | zero => exact Iff.rfl
  | succ c ih =>
    have hr := redTo_rref M n c
    unfold redTo
    cases hf : fstNZ (redTo M n c).1 n c (redTo M n c).2.length with
    | none => exact ih
    | some up =>
      obtain ⟨h1, h2, h3, _⟩ := fstNZ_some hf
      exact (ker_elim (by omega) h2 h3 x).trans ih
theorem redTo_some {M : Nat → Nat → F} {n c up : Nat} (h : fstNZ (redTo M n c).1 n c (redTo M n c).2.length = some up) : redTo M n (c + 1) = (elim (redTo M n c).1 (redTo M n c).2.length up c, (redTo M n c).2 ++ [c]) := by
  conv => lhs; unfold redTo
  rw [h]
theorem redTo_none {M : Nat → Nat → F} {n c : Nat} (h : fstNZ (redTo M n c).1 n c (redTo M n c).2.length = none) : redTo M n (c + 1) = redTo M n c := by
  conv => lhs; unfold redTo
  rw [h]

/-! ### Pivots are told by what comes to nothing -/
/-- x ends at c: 1 there, and 0 behind -/
def Ends (c : Nat) (x : Nat → F) : Prop := x c = 1 ∧ ∀ j, c < j → x j = 0
/-- where a column is a pivot's nothing that ends there comes to nothing -/
theorem Rref.pivot_no {n c N : Nat} {M : Nat → Nat → F} {ps : List Nat} (h : Rref n c M ps) (hN : c ≤ N) {p : Nat} (hp : p ∈ ps) (x : Nat → F) (hx : Ends p x) : ¬ Ker n N M x := by
  intro hk
  obtain ⟨k, hkl, rfl⟩ := List.getElem_of_mem hp
  have hpc := h.lt _ hp
  have h1 := hk k (by have := h.len; omega)
  have h2 : dt N (M k) x = 1 := sm_one N ps[k] _ _ (by omega) (fun i hi hne => by
    rcases Nat.lt_or_ge i ps[k] with h3 | h3
    · rw [h.lead k hkl i h3, zero_mul]
    · rw [hx.2 i (by omega), mul_zero]) (by rw [h.one k hkl, hx.1, mul_one])
  rw [h2] at h1
  exact one_ne_zero h1
/-- the sum over the pivots -/
theorem sm_two (N a b : Nat) (f : Nat → F) (ha : a < N) (hb : b < N) (hab : a ≠ b) (h : ∀ i, i < N → i ≠ a → i ≠ b → f i = 0) : sm N f = f a + f b := by
  have key : ∀ A B : F, A = f a → B = f b → sm N f = (sm N fun i => if i = a then A else 0) + sm N fun i => if i = b then B else 0 := by
    intro A B hA hB
    rw [← sm_add]
    refine sm_congr fun i hi => ?_
    show f i = (if i = a then A else 0) + if i = b then B else 0
    by_cases h1 : i = a
    · rw [if_pos h1, if_neg (fun e => hab (h1 ▸ e)), add_zero, h1, hA]
    · by_cases h2 : i = b
      · rw [if_neg h1, if_pos h2, zero_add, h2, hB]
      · rw [if_neg h1, if_neg h2, add_zero, h i hi h1 h2]
  rw [key (f a) (f b) rfl rfl, sm_one N a (f a) (fun i => if i = a then f a else 0) ha (fun i _ hne => if_neg hne) (if_pos rfl), sm_one N b (f b) (fun i => if i = b then f b else 0) hb (fun i _ hne => if_neg hne) (if_pos rfl)]
/-- where it isn't there is one: the column is made of those of pivots ahead of it -/
theorem Rref.other_is {n c N : Nat} {M : Nat → Nat → F} {ps : List Nat} (h : Rref n c M ps) (hN : c ≤ N) {p : Nat} (hpc : p < c) (hp : p ∉ ps) : ∃ x, Ends p x ∧ Ker n N M x := by
  refine ⟨fun j => if j = p then 1 else if j < p then (match ps.idxOf? j with | some k => M k p | none => 0) else 0, ⟨if_pos rfl, fun j hj => by
    show (if j = p then (1 : F) else if j < p then _ else 0) = 0
    rw [if_neg (by omega), if_neg (by omega)]⟩, fun i hi => ?_⟩
  have idx : ∀ k (hk : k < ps.length), ps.idxOf? ps[k] = some k := fun k hk => by
    rw [List.idxOf?_eq_some_iff]
    refine ⟨hk, rfl, fun j hj => ?_⟩
    have := List.pairwise_iff_getElem.1 h.inc j k (by omega) hk hj
    omega
  have idn : ∀ j, j ∉ ps → ps.idxOf? j = none := fun j hj => by rw [List.idxOf?_eq_none_iff]; exact hj
  by_cases hil : i < ps.length
  · -- a pivot's row
    have hpi := h.lt _ (List.getElem_mem hil)
    have hnp : ps[i] ≠ p := fun e => hp (e ▸ List.getElem_mem hil)
    rcases Nat.lt_or_ge ps[i] p with hlt | hge
    · have hs := sm_two N ps[i] p (fun j => M i j * (if j = p then 1 else if j < p then (match ps.idxOf? j with | some k => M k p | none => 0) else 0)) (by omega) (by omega) hnp (fun j hj h1 h2 => by
        show M i j * _ = 0
        rw [if_neg h2]
        split
        · by_cases hjm : j ∈ ps
          · obtain ⟨k, hk, rfl⟩ := List.getElem_of_mem hjm
            have hki : i ≠ k := fun e => h1 (by subst e; rfl)
            rw [h.zer k hk i hi hki, zero_mul]
          · rw [idn j hjm]
            exact mul_zero _
        · exact mul_zero _)
      show sm N _ = 0
      rw [hs]
      show M i ps[i] * (if ps[i] = p then 1 else if ps[i] < p then (match ps.idxOf? ps[i] with | some k => M k p | none => 0) else 0) + M i p * (if p = p then 1 else _) = 0
      rw [if_neg hnp, if_pos hlt, idx i hil, if_pos rfl, h.one i hil, one_mul, mul_one, add_self]
    · refine dt_zero_left N _ _ fun j hj => ?_
      by_cases h1 : j = p
      · subst h1
        rw [h.lead i hil j (by omega), zero_mul]
      · rw [if_neg h1]
        split
        · rw [h.lead i hil j (by omega), zero_mul]
        · exact mul_zero _
  · refine dt_zero_left N _ _ fun j hj => ?_
    by_cases h1 : j = p
    · subst h1
      rw [h.low i hi (by omega) j hpc, zero_mul]
    · rw [if_neg h1]
      split
      · rw [h.low i hi (by omega) j (by omega), zero_mul]
      · exact mul_zero _
/-- a pivot's column, told by what comes to nothing alone -/
theorem mem_pivots {n c N : Nat} (M : Nat → Nat → F) (hN : c ≤ N) {p : Nat} (hp : p < c) : p ∈ (redTo M n c).2 ↔ ∀ x, Ends p x → ¬ Ker n N M x := by
  have h := redTo_rref M n c
  constructor
  · intro hm x hx hk
    exact h.pivot_no hN hm x hx ((redTo_ker M n c N x).2 hk)
  · intro hno
    by_cases hm : p ∈ (redTo M n c).2
    · exact hm
    · obtain ⟨x, hx, hk⟩ := h.other_is hN hp hm
      exact absurd ((redTo_ker M n c N x).1 hk) (hno x hx)
end Go.Proofs.Ytcodgamhgfafnaa
