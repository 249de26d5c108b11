/-
  RANKS, REDUCING TWICE, SOLVING AND INVERSES, WITHOUT ANY PROGRAM. No conditions.
-/
import Derived.Test.YtcodgamhgfafnaaLin
namespace Go.Proofs.Ytcodgamhgfafnaa
set_option linter.unusedVariables false

/-- nothing that ends at the column comes to nothing -/
def Piv (n N : Nat) (M : Nat → Nat → F) (p : Nat) : Prop := ∀ x, Ends p x → ¬ Ker n N M x
open Classical in
theorem piv_filter {n N : Nat} (M : Nat → Nat → F) (c : Nat) (hc : c ≤ N) : (redTo M n c).2 = (List.range c).filter fun p => decide (Piv n N M p) := by
  induction c with
  | zero => rfl
  | succ c ih =>
    have hm := mem_pivots (n := n) (c := c + 1) (N := N) M hc (p := c) (Nat.lt_succ_self c)
    rw [List.range_succ, List.filter_append, ← ih (by omega)]
    cases hf : fstNZ (redTo M n c).1 n c (redTo M n c).2.length with
    | none =>
      rw [redTo_none hf] at hm ⊢
      have hno : ¬ Piv n N M c := fun h => by
        have h1 := hm.2 h
        have := (redTo_rref M n c).lt c h1
        omega
      rw [List.filter_cons_of_neg (by simpa using hno), List.filter_nil, List.append_nil]
    | some up =>
      rw [redTo_some hf] at hm ⊢
      have hyes : Piv n N M c := hm.1 (by simp)
      rw [List.filter_cons_of_pos (by simpa using hyes), List.filter_nil]
theorem Rref.len_cols {n c : Nat} {M : Nat → Nat → F} {ps : List Nat} (h : Rref n c M ps) : ps.length ≤ c := by
  have : ∀ (l : List Nat) (c : Nat), l.Pairwise (· < ·) → (∀ p ∈ l, p < c) → l.length ≤ c := by
    intro l
    induction l with
    | nil => intro c _ _; exact Nat.zero_le _
    | cons a l ih =>
      intro c hp hl
      rw [List.pairwise_cons] at hp
      have h1 : (l.map fun x => x - (a + 1)).length ≤ c - (a + 1) := by
        rw [List.length_map]
        have key : ∀ (m : List Nat) (b c : Nat), m.Pairwise (· < ·) → (∀ p ∈ m, b < p ∧ p < c) → m.length ≤ c - (b + 1) := by
          intro m
          induction m with
          | nil => intro b c _ _; exact Nat.zero_le _
          | cons d m ih2 =>
            intro b c hp hl
            rw [List.pairwise_cons] at hp
            have h1 := hl d List.mem_cons_self
            have h2 := ih2 d c hp.2 fun p hpm => ⟨hp.1 p hpm, (hl p (List.mem_cons_of_mem _ hpm)).2⟩
            simp only [List.length_cons]
            omega
        exact key l a c hp.2 fun p hpm => ⟨hp.1 p hpm, hl p (List.mem_cons_of_mem _ hpm)⟩
      rw [List.length_map] at h1
      have h2 := hl a List.mem_cons_self
      simp only [List.length_cons]
      omega
  exact this ps c h.inc h.lt

/-- the rank, by all N columns -/
def rankF (M : Nat → Nat → F) (n N : Nat) : Nat := (redTo M n N).2.length
theorem rank_rows (M : Nat → Nat → F) (n N : Nat) : rankF M n N ≤ n := (redTo_rref M n N).len
theorem rank_cols (M : Nat → Nat → F) (n N : Nat) : rankF M n N ≤ N := (redTo_rref M n N).len_cols
theorem rank_of_ker {n n' N : Nat} {M M' : Nat → Nat → F} (h : ∀ x, Ker n N M x ↔ Ker n' N M' x) (c : Nat) (hc : c ≤ N) : (redTo M n c).2 = (redTo M' n' c).2 := by
  rw [piv_filter M c hc, piv_filter M' c hc]
  refine List.filter_congr fun p _ => ?_
  have : Piv n N M p ↔ Piv n' N M' p := ⟨fun hp x hx hk => hp x hx ((h x).2 hk), fun hp x hx hk => hp x hx ((h x).1 hk)⟩
  exact decide_eq_decide.2 this
theorem filter_le {α : Type} (l : List α) (P Q : α → Bool) (h : ∀ a ∈ l, P a = true → Q a = true) : (l.filter P).length ≤ (l.filter Q).length := by
  induction l with
  | nil => exact Nat.le_refl _
  | cons a l ih =>
    have ih' := ih fun b hb => h b (List.mem_cons_of_mem _ hb)
    have ha := h a List.mem_cons_self
    rw [List.filter_cons, List.filter_cons]
    cases hp : P a
    · cases Q a <;> simp <;> omega
    · rw [ha hp]; simp; omega
theorem filter_one_more (l : List Nat) (P Q : Nat → Bool) (hd : l.Pairwise (· < ·)) (h : ∀ a ∈ l, ∀ b ∈ l, a < b → Q a = true → Q b = true → P a = false → P b = false → False) : (l.filter Q).length ≤ (l.filter P).length + 1 := by
  induction l with
  | nil => simp
  | cons a l ih =>
    rw [List.pairwise_cons] at hd
    have ih' := ih hd.2 fun x hx y hy => h x (List.mem_cons_of_mem _ hx) y (List.mem_cons_of_mem _ hy)
    rw [List.filter_cons, List.filter_cons]
    cases hq : Q a
    · cases P a <;> simp <;> omega
    · cases hp : P a
      · have h1 : (l.filter Q).length ≤ (l.filter P).length := filter_le l Q P fun b hb hqb => by
          cases hpb : P b
          · exact absurd (h a List.mem_cons_self b (List.mem_cons_of_mem _ hb) (hd.1 b hb) hq hqb hp hpb) id
          · rfl
        simp; omega
      · simp; omega
/-- without the first row -/
theorem rank_less (M : Nat → Nat → F) (n N : Nat) : rankF (fun i => M (i + 1)) n N ≤ rankF M (n + 1) N := by
  unfold rankF
  rw [piv_filter _ N (Nat.le_refl _), piv_filter _ N (Nat.le_refl _)]
  refine filter_le _ _ _ fun p _ hp => ?_
  simp only [decide_eq_true_eq] at hp ⊢
  intro x hx hk
  exact hp x hx fun i hi => hk (i + 1) (by omega)
theorem rank_more (M : Nat → Nat → F) (n N : Nat) : rankF M (n + 1) N ≤ rankF (fun i => M (i + 1)) n N + 1 := by
  unfold rankF
  rw [piv_filter _ N (Nat.le_refl _), piv_filter _ N (Nat.le_refl _)]
  refine filter_one_more _ _ _ List.pairwise_lt_range fun p _ q _ hpq h1 h2 h3 h4 => ?_
  simp only [decide_eq_true_eq, decide_eq_false_iff_not] at h1 h2 h3 h4
  have hx : ∃ x, Ends p x ∧ Ker n N (fun i => M (i + 1)) x := Classical.byContradiction fun hno => h3 fun x hx hk => hno ⟨x, hx, hk⟩
  have hy : ∃ x, Ends q x ∧ Ker n N (fun i => M (i + 1)) x := Classical.byContradiction fun hno => h4 fun x hx hk => hno ⟨x, hx, hk⟩
  obtain ⟨x, hx, kx⟩ := hx
  obtain ⟨y, hy, ky⟩ := hy
  have ha : dt N (M 0) x ≠ 0 := fun e => h1 x hx fun i hi => by
    cases i with
    | zero => exact e
    | succ i => exact kx i (by omega)
  have hz : Ends q (fun j => y j + dt N (M 0) y * inv (dt N (M 0) x) * x j) := ⟨by
    show y q + dt N (M 0) y * inv (dt N (M 0) x) * x q = 1
    rw [hx.2 q hpq, mul_zero, add_zero, hy.1], fun j hj => by
    show y j + dt N (M 0) y * inv (dt N (M 0) x) * x j = 0
    rw [hx.2 j (by omega), mul_zero, add_zero, hy.2 j hj]⟩
  refine h2 _ hz fun i hi => ?_
  rw [dt_add_right, dt_mul_right]
  cases i with
  | zero => rw [mul_assoc, inv_mul ha, mul_one, add_self]
  | succ i => rw [show dt N (M (i + 1)) y = 0 from ky i (by omega), show dt N (M (i + 1)) x = 0 from kx i (by omega), mul_zero, add_zero]
/-- a row that is there already, or a sum of two, at the end -/
theorem ker_sum {M : Nat → Nat → F} {n N a b : Nat} (ha : a < n) (hb : b < n) (s : Nat → F) (hs : ∀ j, j < N → s j = M a j + M b j) (x : Nat → F) : Ker (n + 1) N (fun i => if i = n then s else M i) x ↔ Ker n N M x := by
  constructor
  · intro h i hi
    have := h i (by omega)
    simp only [if_neg (show i ≠ n by omega)] at this
    exact this
  · intro h i hi
    by_cases hin : i = n
    · simp only [if_pos hin]
      rw [dt_congr (r' := fun j => M a j + M b j) hs (fun _ _ => rfl), dt_add_left, h a ha, h b hb, add_zero]
    · simp only [if_neg hin]
      exact h i (by omega)

/-! ### What hangs on which rows and columns -/
theorem fstNZ_congr {M M' : Nat → Nat → F} {n col pos : Nat} (h : ∀ i, i < n → M i col = M' i col) : fstNZ M n col pos = fstNZ M' n col pos := by
  cases hf : fstNZ M n col pos with
  | none => exact (fstNZ_empty fun i hi hn => by rw [← h i hn]; exact fstNZ_none hf i hi hn).symm
  | some up =>
    obtain ⟨h1, h2, h3, h4⟩ := fstNZ_some hf
    exact (fstNZ_at h1 h2 (by rw [← h up h2]; exact h3) fun i hi hlt => by rw [← h i (by omega)]; exact h4 i hi hlt).symm
theorem elim_congr {M M' : Nat → Nat → F} {n N pos up col : Nat} (hp : pos < n) (hu : up < n) (hc : col < N) (h : ∀ i, i < n → ∀ j, j < N → M i j = M' i j) : ∀ i, i < n → ∀ j, j < N → elim M pos up col i j = elim M' pos up col i j := by
  intro i hi j hj
  unfold elim
  rw [h up hu j hj, h up hu col hc, h pos hp j hj, h pos hp col hc, h i hi j hj, h i hi col hc]
theorem redTo_congr {M M' : Nat → Nat → F} {n N : Nat} (h : ∀ i, i < n → ∀ j, j < N → M i j = M' i j) (c : Nat) (hc : c ≤ N) : (redTo M n c).2 = (redTo M' n c).2 ∧ ∀ i, i < n → ∀ j, j < N → (redTo M n c).1 i j = (redTo M' n c).1 i j := by
  induction c with
  | zero => exact ⟨rfl, h⟩
  | succ c ih =>
    obtain ⟨ih1, ih2⟩ := ih (by omega)
    have hf := fstNZ_congr (M := (redTo M n c).1) (M' := (redTo M' n c).1) (n := n) (col := c) (pos := (redTo M n c).2.length) fun i hi => ih2 i hi c (by omega)
    cases hs : fstNZ (redTo M n c).1 n c (redTo M n c).2.length with
    | none =>
      rw [hs, ih1] at hf
      rw [redTo_none hs, redTo_none hf.symm]
      exact ⟨ih1, ih2⟩
    | some up =>
      rw [hs, ih1] at hf
      obtain ⟨h1, h2, _, _⟩ := fstNZ_some hs
      rw [redTo_some hs, redTo_some hf.symm]
      refine ⟨by rw [ih1], ?_⟩
      rw [← ih1]
      exact elim_congr (by omega) h2 (by omega) ih2

/-- reduced again it is the same -/
theorem redTo_again {n c : Nat} {M : Nat → Nat → F} {ps : List Nat} (h : Rref n c M ps) : (redTo M n c).2 = ps ∧ ∀ i, i < n → ∀ j, (redTo M n c).1 i j = M i j := by
  have key : ∀ d, d ≤ c → ∃ k, k ≤ ps.length ∧ (redTo M n d).2 = ps.take k ∧ (∀ i (hi : i < ps.length), i < k → ps[i] < d) ∧ (∀ i (hi : i < ps.length), k ≤ i → d ≤ ps[i]) ∧ ∀ i, i < n → ∀ j, (redTo M n d).1 i j = M i j := by
    intro d
    induction d with
    | zero => intro _; exact ⟨0, Nat.zero_le _, rfl, fun i _ hi => by omega, fun i _ _ => Nat.zero_le _, fun _ _ _ => rfl⟩
    | succ d ih =>
      intro hd
      obtain ⟨k, hk, e, lo, hi, same⟩ := ih (by omega)
      have hlen : (redTo M n d).2.length = k := by rw [e, List.length_take]; omega
      have hn := h.len
      by_cases hpd : ∃ hkl : k < ps.length, ps[k] = d
      · obtain ⟨hkl, hpk⟩ := hpd
        have hf : fstNZ (redTo M n d).1 n d (redTo M n d).2.length = some k := by
          rw [hlen]
          refine fstNZ_at (Nat.le_refl _) (by omega) ?_ fun i h1 h2 => by omega
          rw [same k (by omega) d, ← hpk, h.one k hkl]
          exact one_ne_zero
        refine ⟨k + 1, by omega, ?_, fun i hil hik => ?_, fun i hil hik => ?_, fun i hin j => ?_⟩
        · rw [redTo_some hf, e]
          show ps.take k ++ [d] = ps.take (k + 1)
          rw [List.take_add_one, List.getElem?_eq_getElem hkl, hpk]
          rfl
        · by_cases hik2 : i = k
          · subst hik2; omega
          · have := lo i hil (by omega); omega
        · have := List.pairwise_iff_getElem.1 h.inc k i hkl hil (by omega)
          omega
        · rw [redTo_some hf, hlen]
          show elim (redTo M n d).1 k k d i j = M i j
          have hkd : M k d = 1 := by rw [← hpk]; exact h.one k hkl
          by_cases hik : i = k
          · subst hik
            rw [elim_pos, same i hin j, same i hin d, hkd, show inv 1 = (1 : F) from (inv_unique (mul_one 1)).symm, mul_one]
          · rw [elim_other _ j hik, if_neg hik, if_neg hik, same i hin j, same i hin d, ← hpk, h.zer k hkl i hin hik, zero_mul, add_zero]
      · have hf : fstNZ (redTo M n d).1 n d (redTo M n d).2.length = none := by
          rw [hlen]
          refine fstNZ_empty fun i h1 h2 => ?_
          rw [same i h2 d]
          rcases Nat.lt_or_ge i ps.length with h3 | h3
          · refine h.lead i h3 d ?_
            have h4 := hi i h3 h1
            rcases Nat.lt_or_ge d ps[i] with h5 | h5
            · exact h5
            · exfalso
              have h6 : ps[i] = d := by omega
              by_cases hik : k = i
              · subst hik; exact hpd ⟨h3, h6⟩
              · have h7 := hi k (by omega) (Nat.le_refl _)
                have h8 := List.pairwise_iff_getElem.1 h.inc k i (by omega) h3 (by omega)
                omega
          · exact h.low i h2 h3 d (by omega)
        rw [redTo_none hf]
        refine ⟨k, hk, e, fun i hil hik => by have := lo i hil hik; omega, fun i hil hik => ?_, same⟩
        have h4 := hi i hil hik
        rcases Nat.lt_or_ge d ps[i] with h5 | h5
        · exact h5
        · exfalso
          have h6 : ps[i] = d := by omega
          by_cases hik : k = i
          · subst hik; exact hpd ⟨hil, h6⟩
          · have h7 := hi k (by omega) (Nat.le_refl _)
            have h8 := List.pairwise_iff_getElem.1 h.inc k i (by omega) hil (by omega)
            omega
  obtain ⟨k, hk, e, _, hi, same⟩ := key c (Nat.le_refl _)
  refine ⟨?_, same⟩
  rw [e]
  refine List.take_of_length_le ?_
  rcases Nat.lt_or_ge k ps.length with h1 | h1
  · have := hi k h1 (Nat.le_refl _)
    have := h.lt _ (List.getElem_mem h1)
    omega
  · exact h1

/-! ### Solving -/
/-- the matrix with its right side behind -/
def augC (N : Nat) (M : Nat → Nat → F) (r : Nat → F) : Nat → Nat → F := fun i j => if j = N then r i else M i j
/-- x, and 1 behind -/
def upC (N : Nat) (x : Nat → F) : Nat → F := fun j => if j = N then 1 else x j
theorem dt_aug (N : Nat) (r x : Nat → F) : dt (N + 1) r x = dt N r x + r N * x N := rfl
theorem ker_aug (n N : Nat) (M : Nat → Nat → F) (r x : Nat → F) : Ker n (N + 1) (augC N M r) (upC N x) ↔ ∀ i, i < n → dt N (M i) x = r i := by
  have e : ∀ i, dt (N + 1) (augC N M r i) (upC N x) = dt N (M i) x + r i := fun i => by
    rw [dt_aug]
    congr 1
    · exact dt_congr (fun j hj => by unfold augC; rw [if_neg (by omega)]) (fun j hj => by unfold upC; rw [if_neg (by omega)])
    · unfold augC upC; rw [if_pos rfl, if_pos rfl, mul_one]
  unfold Ker
  constructor
  · intro h i hi
    have := h i hi
    rw [e] at this
    exact add_eq_zero.1 this
  · intro h i hi
    rw [e, h i hi, add_self]
/-- what is 0 but at pivots, where it is what stands behind -/
structure SolX (N : Nat) (R : Nat → Nat → F) (ps : List Nat) (x : Nat → F) : Prop where
  at_ : ∀ k (h : k < ps.length), x ps[k] = R k N
  off : ∀ j, j < N → j ∉ ps → x j = 0
theorem Rref.sol {n N : Nat} {R : Nat → Nat → F} {ps : List Nat} (h : Rref n N R ps) {x : Nat → F} (hx : SolX N R ps x) : Ker n (N + 1) R (upC N x) ↔ ∀ i, ps.length ≤ i → i < n → R i N = 0 := by
  have e1 : ∀ i, i < n → ps.length ≤ i → dt (N + 1) (R i) (upC N x) = R i N := fun i hi hl => by
    rw [dt_aug, dt_zero_left N _ _ fun j hj => by rw [h.low i hi hl j hj, zero_mul], zero_add]
    unfold upC; rw [if_pos rfl, mul_one]
  have e2 : ∀ i, i < n → i < ps.length → dt (N + 1) (R i) (upC N x) = 0 := fun i hi hl => by
    have hpi := h.lt _ (List.getElem_mem hl)
    rw [dt_aug, show dt N (R i) (upC N x) = R i N from ?_]
    · unfold upC; rw [if_pos rfl, mul_one, add_self]
    · refine sm_one N ps[i] _ _ hpi (fun j hj hne => ?_) ?_
      · by_cases hjm : j ∈ ps
        · obtain ⟨k, hk, rfl⟩ := List.getElem_of_mem hjm
          rw [h.zer k hk i hi (fun e => hne (by subst e; rfl)), zero_mul]
        · unfold upC; rw [if_neg (by omega), hx.off j hj hjm, mul_zero]
      · unfold upC; rw [if_neg (by omega), h.one i hl, one_mul, hx.at_ i hl]
  constructor
  · intro hk i hl hi
    rw [← e1 i hi hl]
    exact hk i hi
  · intro hz i hi
    rcases Nat.lt_or_ge i ps.length with hl | hl
    · exact e2 i hi hl
    · rw [e1 i hi hl]; exact hz i hl hi
/-- is there any? then all rows without a pivot are 0 there, too -/
theorem Rref.any {n N : Nat} {R : Nat → Nat → F} {ps : List Nat} (h : Rref n N R ps) {x : Nat → F} (hk : Ker n (N + 1) R (upC N x)) : ∀ i, ps.length ≤ i → i < n → R i N = 0 := fun i hl hi => by
  have := hk i hi
  rw [dt_aug, dt_zero_left N _ _ fun j hj => by rw [h.low i hi hl j hj, zero_mul], zero_add] at this
  unfold upC at this
  rw [if_pos rfl, mul_one] at this
  exact this
/-- WHAT IS SOLVED IS RIGHT, just if the rows without a pivot are 0 behind -/
theorem sol_right {n N : Nat} (M : Nat → Nat → F) (r : Nat → F) {x : Nat → F} (hx : SolX N (redTo (augC N M r) n N).1 (redTo (augC N M r) n N).2 x) :
    (∀ i, i < n → dt N (M i) x = r i) ↔ ∀ i, (redTo (augC N M r) n N).2.length ≤ i → i < n → (redTo (augC N M r) n N).1 i N = 0 := by
  rw [← ker_aug n N M r x, ← redTo_ker (augC N M r) n N (N + 1)]
  exact (redTo_rref _ n N).sol hx
theorem sol_any {n N : Nat} (M : Nat → Nat → F) (r : Nat → F) {x : Nat → F} (hx : ∀ i, i < n → dt N (M i) x = r i) :
    ∀ i, (redTo (augC N M r) n N).2.length ≤ i → i < n → (redTo (augC N M r) n N).1 i N = 0 := by
  rw [← ker_aug n N M r x, ← redTo_ker (augC N M r) n N (N + 1)] at hx
  exact (redTo_rref _ n N).any hx

/-! ### Inverses -/
/-- the matrix with that of 1 and 0s behind -/
def augI (n : Nat) (M : Nat → Nat → F) : Nat → Nat → F := fun i j => if j < n then M i j else if j = n + i then 1 else 0
theorem sm_split (n k : Nat) (f : Nat → F) : sm (n + k) f = sm n f + sm k fun i => f (n + i) := by
  induction k with
  | zero => rw [Nat.add_zero]; exact (add_zero _).symm
  | succ k ih =>
    show sm (n + k) f + f (n + k) = sm n f + (sm k (fun i => f (n + i)) + f (n + k))
    rw [ih, add_assoc]
/-- x, and y behind -/
def two (n : Nat) (x y : Nat → F) : Nat → F := fun j => if j < n then x j else y (j - n)
theorem dt_two (n k : Nat) (r x y : Nat → F) : dt (n + k) r (two n x y) = dt n r x + dt k (fun j => r (n + j)) y := by
  unfold dt
  rw [sm_split]
  congr 1
  · exact sm_congr fun j hj => by unfold two; rw [if_pos hj]
  · exact sm_congr fun j hj => by
      show r (n + j) * two n x y (n + j) = r (n + j) * y j
      unfold two
      rw [if_neg (by omega), Nat.add_sub_cancel_left]
theorem ker_augI (n : Nat) (M : Nat → Nat → F) (x y : Nat → F) : Ker n (n + n) (augI n M) (two n x y) ↔ ∀ i, i < n → dt n (M i) x = y i := by
  have e : ∀ i, i < n → dt (n + n) (augI n M i) (two n x y) = dt n (M i) x + y i := fun i hi => by
    rw [dt_two]
    congr 1
    · exact dt_congr (fun j hj => by unfold augI; rw [if_pos hj]) (fun _ _ => rfl)
    · refine sm_one n i _ _ hi (fun j hj hne => ?_) ?_
      · show augI n M i (n + j) * y j = 0
        unfold augI; rw [if_neg (by omega), if_neg (by omega), zero_mul]
      · show augI n M i (n + i) * y i = y i
        unfold augI; rw [if_neg (by omega), if_pos rfl, one_mul]
  unfold Ker
  constructor
  · intro h i hi
    have := h i hi
    rw [e i hi] at this
    exact add_eq_zero.1 this
  · intro h i hi
    rw [e i hi, h i hi, add_self]
theorem Rref.full {n : Nat} {R : Nat → Nat → F} {ps : List Nat} (h : Rref n n R ps) (hl : ps.length = n) : ∀ k (hk : k < ps.length), ps[k] = k := by
  have lo : ∀ k (hk : k < ps.length), k ≤ ps[k] := by
    intro k
    induction k with
    | zero => intro _; exact Nat.zero_le _
    | succ k ih =>
      intro hk
      have h1 := ih (by omega)
      have h2 := List.pairwise_iff_getElem.1 h.inc k (k + 1) (by omega) hk (by omega)
      omega
  have hi : ∀ d k (hk : k < ps.length), k + d + 1 = ps.length → ps[k] + d < n := by
    intro d
    induction d with
    | zero => intro k hk _; have := h.lt _ (List.getElem_mem hk); omega
    | succ d ih =>
      intro k hk e
      have h1 := ih (k + 1) (by omega) (by omega)
      have h2 := List.pairwise_iff_getElem.1 h.inc k (k + 1) hk (by omega) (by omega)
      omega
  intro k hk
  have h1 := lo k hk
  have h2 := hi (ps.length - 1 - k) k hk (by omega)
  omega
/-- E is an inverse: what M makes of x E makes of it again, and back -/
def IsInv (n : Nat) (M E : Nat → Nat → F) : Prop := ∀ x y : Nat → F, (∀ i, i < n → dt n (M i) x = y i) ↔ ∀ i, i < n → dt n (E i) y = x i
theorem IsInv.symm {n : Nat} {M E : Nat → Nat → F} (h : IsInv n M E) : IsInv n E M := fun x y => (h y x).symm
theorem inv_of_red {n : Nat} (M : Nat → Nat → F) (hl : (redTo (augI n M) n n).2.length = n) : IsInv n M fun i j => (redTo (augI n M) n n).1 i (n + j) := by
  have h := redTo_rref (augI n M) n n
  have hf := h.full hl
  intro x y
  rw [← ker_augI n M x y, ← redTo_ker (augI n M) n n (n + n)]
  have e : ∀ i, i < n → dt (n + n) ((redTo (augI n M) n n).1 i) (two n x y) = x i + dt n (fun j => (redTo (augI n M) n n).1 i (n + j)) y := fun i hi => by
    rw [dt_two]
    congr 1
    refine sm_one n i _ _ hi (fun j hj hne => ?_) ?_
    · have h1 := h.zer j (by omega) i hi (fun e => hne e.symm)
      rw [hf j (by omega)] at h1
      rw [h1, zero_mul]
    · have h1 := h.one i (by omega)
      rw [hf i (by omega)] at h1
      rw [h1, one_mul]
  unfold Ker
  constructor
  · intro hk i hi
    have := hk i hi
    rw [e i hi] at this
    exact (add_eq_zero.1 this).symm
  · intro hk i hi
    rw [e i hi, hk i hi, add_self]
/-- the pivots of the first n columns hang on these alone -/
theorem pivots_augI (n : Nat) (M : Nat → Nat → F) : (redTo (augI n M) n n).2 = (redTo M n n).2 :=
  (redTo_congr (M := augI n M) (M' := M) (N := n) (fun i _ j hj => by unfold augI; rw [if_pos hj]) n (Nat.le_refl _)).1
theorem IsInv.rank {n : Nat} {M E : Nat → Nat → F} (h : IsInv n M E) : (redTo M n n).2.length = n := by
  rw [piv_filter M n (Nat.le_refl _)]
  rw [List.filter_eq_self.2 ?_, List.length_range]
  intro p hp
  rw [List.mem_range] at hp
  simp only [decide_eq_true_eq]
  intro x hx hk
  have h1 := (h x fun _ => 0).1 hk p hp
  rw [hx.1, dt, sm_congr (g := fun _ => 0) fun j _ => mul_zero _, sm_zero] at h1
  exact one_ne_zero h1.symm
theorem IsInv.unique {n : Nat} {M M' E : Nat → Nat → F} (h : IsInv n M E) (h' : IsInv n M' E) : ∀ i, i < n → ∀ j, j < n → M i j = M' i j := by
  intro i hi j hj
  have h1 := (h (eU j) fun i => dt n (M i) (eU j)).1 fun _ _ => rfl
  have h2 := (h' (eU j) fun i => dt n (M i) (eU j)).2 h1 i hi
  rw [dt_unit _ hj, dt_unit _ hj] at h2
  exact h2.symm
end Go.Proofs.Ytcodgamhgfafnaa
