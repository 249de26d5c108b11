/-
  POLYNOMIALS OVER THE FIELD OF BYTES, WITHOUT ANY PROGRAM: rows of coefficients, the lowest one first. No conditions.
-/
import Derived.Test.YtbphbogolffanaaDoorRow
namespace Go.Proofs.YtbphbogolffanaaDoor
set_option linter.unusedVariables false

/-! ### 1. Rows by their places -/
theorem gt_nil (i : Nat) : gt [] i = 0 := rfl
theorem gt_cons_zero (a : F) (l : List F) : gt (a :: l) 0 = a := rfl
theorem gt_cons_succ (a : F) (l : List F) (i : Nat) : gt (a :: l) (i + 1) = gt l i := by simp [gt]
theorem ext_gt {l m : List F} (hl : l.length = m.length) (h : ∀ i, i < l.length → gt l i = gt m i) : l = m := by
  apply List.ext_getElem hl
  intro i h1 h2
  have := h i h1
  rwa [gt_lt h1, gt_lt h2] at this
theorem gt_take (l : List F) (k i : Nat) : gt (l.take k) i = if i < k then gt l i else 0 := by
  unfold gt
  by_cases h : i < k <;> simp [List.getD, List.getElem?_take, h]
theorem gt_drop (l : List F) (k i : Nat) : gt (l.drop k) i = gt l (k + i) := by
  unfold gt
  simp [List.getD, List.getElem?_drop]
theorem gt_append (l m : List F) (i : Nat) : gt (l ++ m) i = if i < l.length then gt l i else gt m (i - l.length) := by
  unfold gt
  by_cases h : i < l.length <;> simp [List.getD, List.getElem?_append, h]
theorem gt_set (l : List F) (k i : Nat) (x : F) (hk : k < l.length) : gt (l.set k x) i = if i = k then x else gt l i := by
  unfold gt
  by_cases h : i = k
  · subst h; simp [List.getD, hk]
  · simp [List.getD, h, Ne.symm h]
theorem gt_replicate (n i : Nat) : gt (List.replicate n 0) i = 0 := by
  unfold gt
  by_cases h : i < n <;> simp [List.getD, h]

/-- how many bytes there are without noughts at the end -/
def tl (l : List F) : Nat → Nat
  | 0 => 0
  | k + 1 => if gt l k = 0 then tl l k else k + 1
/-- trimmed -/
def tr (l : List F) : List F := l.take (tl l l.length)
theorem tl_le (l : List F) (k : Nat) : tl l k ≤ k := by
  induction k with
  | zero => exact Nat.le_refl _
  | succ k ih => unfold tl; split <;> omega
theorem tl_zero_from (l : List F) (k i : Nat) (h : tl l k ≤ i) (hi : i < k) : gt l i = 0 := by
  induction k with
  | zero => omega
  | succ k ih =>
    unfold tl at h
    by_cases e : gt l k = 0
    · rw [if_pos e] at h
      rcases Nat.lt_or_ge i k with h1 | h1
      · exact ih h h1
      · obtain rfl : i = k := by omega
        exact e
    · rw [if_neg e] at h
      omega
theorem tl_last (l : List F) (k : Nat) (h : 0 < tl l k) : gt l (tl l k - 1) ≠ 0 := by
  induction k with
  | zero => exact absurd h (by simp [tl])
  | succ k ih =>
    unfold tl at h ⊢
    by_cases e : gt l k = 0
    · rw [if_pos e] at h ⊢
      exact ih h
    · rw [if_neg e]
      exact e
theorem tl_none (l : List F) : tl l 0 = 0 := rfl
theorem tl_down {l : List F} {k : Nat} (h : gt l k = 0) : tl l (k + 1) = tl l k := if_pos h
theorem tl_here {l : List F} {k : Nat} (h : gt l k ≠ 0) : tl l (k + 1) = k + 1 := if_neg h
theorem tr_length (l : List F) : (tr l).length = tl l l.length := by
  have := tl_le l l.length
  simp [tr]; omega
theorem gt_tr (l : List F) (i : Nat) : gt (tr l) i = gt l i := by
  unfold tr
  rw [gt_take]
  split
  · rfl
  · rcases Nat.lt_or_ge i l.length with h | h
    · exact (tl_zero_from l l.length i (by omega) h).symm
    · exact (gt_ge h).symm
/-- a trimmed row's length is the least behind which all are noughts -/
theorem tl_le_of (l : List F) (n k : Nat) (h : ∀ i, k ≤ i → gt l i = 0) : tl l n ≤ k := by
  rcases Nat.eq_zero_or_pos (tl l n) with h0 | h0
  · omega
  · have h1 := tl_last l n h0
    rcases Nat.lt_or_ge (tl l n - 1) k with h2 | h2
    · omega
    · exact absurd (h _ h2) h1
theorem tr_ext {l m : List F} (h : ∀ i, gt l i = gt m i) : tr l = tr m := by
  have hlen : (tr l).length = (tr m).length := by
    rw [tr_length, tr_length]
    apply Nat.le_antisymm
    · refine tl_le_of _ _ _ fun i hi => ?_
      rw [h]
      rcases Nat.lt_or_ge i m.length with h1 | h1
      · exact tl_zero_from _ _ _ hi h1
      · exact gt_ge h1
    · refine tl_le_of _ _ _ fun i hi => ?_
      rw [← h]
      rcases Nat.lt_or_ge i l.length with h1 | h1
      · exact tl_zero_from _ _ _ hi h1
      · exact gt_ge h1
  exact ext_gt hlen fun i _ => by rw [gt_tr, gt_tr, h]
theorem tr_tr (l : List F) : tr (tr l) = tr l := tr_ext (gt_tr l)
/-- a row whose last byte isn't 0 is trimmed -/
theorem tr_of_last {l : List F} (h : l = [] ∨ gt l (l.length - 1) ≠ 0) : tr l = l := by
  rcases h with rfl | h
  · rfl
  · have hl : 0 < l.length := by
      rcases Nat.eq_zero_or_pos l.length with h0 | h0
      · exact absurd (gt_ge (by omega)) h
      · exact h0
    unfold tr
    obtain ⟨k, hk⟩ : ∃ k, l.length = k + 1 := ⟨l.length - 1, by omega⟩
    rw [hk, tl_here (by rw [hk] at h; exact h), ← hk, List.take_length]
theorem tr_nil_iff (l : List F) : tr l = [] ↔ ∀ i, gt l i = 0 := by
  constructor
  · intro h i
    rw [← gt_tr, h]; rfl
  · intro h
    exact tr_ext (m := []) h
theorem tr_last {l : List F} (h : tr l ≠ []) : gt l ((tr l).length - 1) ≠ 0 := by
  rw [tr_length]
  refine tl_last _ _ ?_
  rw [← tr_length]
  exact List.length_pos_iff.2 h
theorem tl_take (l : List F) (n : Nat) (h : l.length = n) : tr l = l.take (tl l n) := by unfold tr; rw [h]

/-! ### 2. Sums and products, by coefficients -/
def padd : List F → List F → List F
  | [], q => q
  | a :: p, [] => a :: p
  | a :: p, b :: q => (a + b) :: padd p q
theorem gt_padd (p q : List F) (i : Nat) : gt (padd p q) i = gt p i + gt q i := by
  induction p generalizing q i with
  | nil => unfold padd; rw [gt_nil, zero_add]
  | cons a p ih =>
    cases q with
    | nil => unfold padd; rw [gt_nil, add_zero]
    | cons b q =>
      unfold padd
      cases i with
      | zero => rfl
      | succ i => rw [gt_cons_succ, gt_cons_succ, gt_cons_succ, ih]
theorem padd_length (p q : List F) : (padd p q).length = max p.length q.length := by
  induction p generalizing q with
  | nil => unfold padd; simp
  | cons a p ih =>
    cases q with
    | nil => unfold padd; simp
    | cons b q => unfold padd; simp [ih] <;> omega
def pscale (a : F) (p : List F) : List F := p.map (a * ·)
theorem gt_pscale (a : F) (p : List F) (i : Nat) : gt (pscale a p) i = a * gt p i := by
  rcases Nat.lt_or_ge i p.length with h | h
  · rw [gt_lt (by simpa [pscale] using h), gt_lt h]; simp [pscale]
  · rw [gt_ge (by simpa [pscale] using h), gt_ge h, mul_zero]
theorem pscale_length (a : F) (p : List F) : (pscale a p).length = p.length := by simp [pscale]
def pmul : List F → List F → List F
  | [], _ => []
  | a :: p, q => padd (pscale a q) (0 :: pmul p q)
theorem pmul_length_le (p q : List F) : (pmul p q).length ≤ p.length + q.length := by
  induction p with
  | nil => simp [pmul]
  | cons a p ih => unfold pmul; rw [padd_length, pscale_length]; simp; omega

/-- the sum of f at the places below n -/
def sm : Nat → (Nat → F) → F
  | 0, _ => 0
  | n + 1, f => sm n f + f n
theorem sm_congr {n : Nat} {f g : Nat → F} (h : ∀ i, i < n → f i = g i) : sm n f = sm n g := by
  induction n with
  | zero => rfl
  | succ n ih => unfold sm; rw [ih fun i hi => h i (by omega), h n (by omega)]
theorem sm_zero (n : Nat) : sm n (fun _ => 0) = 0 := by
  induction n with
  | zero => rfl
  | succ n ih => unfold sm; rw [ih, add_zero]
theorem sm_first (n : Nat) (f : Nat → F) : sm (n + 1) f = f 0 + sm n fun i => f (i + 1) := by
  induction n with
  | zero => show 0 + f 0 = f 0 + 0; rw [zero_add, add_zero]
  | succ n ih =>
    have e : sm (n + 1 + 1) f = sm (n + 1) f + f (n + 1) := rfl
    rw [e, ih, add_assoc]
    rfl
theorem sm_add (n : Nat) (f g : Nat → F) : sm n (fun i => f i + g i) = sm n f + sm n g := by
  induction n with
  | zero => exact (add_zero 0).symm
  | succ n ih =>
    show sm n (fun i => f i + g i) + (f n + g n) = (sm n f + f n) + (sm n g + g n)
    rw [ih]; ac_rfl
theorem sm_mul (n : Nat) (a : F) (f : Nat → F) : sm n (fun i => a * f i) = a * sm n f := by
  induction n with
  | zero => exact (mul_zero a).symm
  | succ n ih => unfold sm; rw [ih, mul_add]
theorem sm_more {n k : Nat} {f : Nat → F} (h : ∀ i, n ≤ i → f i = 0) : sm (n + k) f = sm n f := by
  induction k with
  | zero => rfl
  | succ k ih =>
    show sm (n + k) f + f (n + k) = _
    rw [ih, h _ (by omega), add_zero]

/-- a product's coefficient -/
theorem gt_pmul (p q : List F) (r : Nat) : gt (pmul p q) r = sm (r + 1) fun j => gt p j * gt q (r - j) := by
  induction p generalizing r with
  | nil =>
    unfold pmul
    rw [gt_nil]
    refine ((sm_congr fun i _ => ?_).trans (sm_zero (r + 1))).symm
    rw [gt_nil, zero_mul]
  | cons a p ih =>
    unfold pmul
    rw [gt_padd, gt_pscale, sm_first]
    congr 1
    cases r with
    | zero => rfl
    | succ r =>
      rw [gt_cons_succ, ih]
      refine sm_congr fun i hi => ?_
      rw [gt_cons_succ, show r + 1 - (i + 1) = r - i by omega]
/-- what stands so far, when the first k of p have been taken -/
theorem gt_pmul_take (p q : List F) (k r : Nat) : gt (pmul (p.take k) q) r = sm (r + 1) fun j => (if j < k then gt p j else 0) * gt q (r - j) := by
  rw [gt_pmul]
  exact sm_congr fun i _ => by rw [gt_take]
theorem sm_pick (n k : Nat) (x : F) (f : Nat → F) (hk : k < n) : sm n (fun j => if j = k then x else f j) = (sm n fun j => if j = k then 0 else f j) + x := by
  induction n with
  | zero => omega
  | succ n ih =>
    show (sm n fun j => if j = k then x else f j) + (if n = k then x else f n) = ((sm n fun j => if j = k then 0 else f j) + if n = k then 0 else f n) + x
    rcases Nat.lt_or_ge k n with h | h
    · rw [ih h, if_neg (by omega), if_neg (by omega)]; ac_rfl
    · obtain rfl : n = k := by omega
      rw [if_pos rfl, if_pos rfl, add_zero]
      congr 1
      exact sm_congr fun i hi => by rw [if_neg (by omega), if_neg (by omega)]
/-- one more of p -/
theorem pmul_step (p q : List F) (k r : Nat) : gt (pmul (p.take (k + 1)) q) r = gt (pmul (p.take k) q) r + (if k ≤ r then gt p k * gt q (r - k) else 0) := by
  rw [gt_pmul_take, gt_pmul_take]
  by_cases h : k ≤ r
  · rw [if_pos h]
    have e1 : (sm (r + 1) fun j => (if j < k + 1 then gt p j else 0) * gt q (r - j)) = sm (r + 1) fun j => if j = k then gt p k * gt q (r - k) else (if j < k then gt p j else 0) * gt q (r - j) := by
      refine sm_congr fun i _ => ?_
      by_cases hi : i = k
      · subst hi; rw [if_pos (by omega), if_pos rfl]
      · rw [if_neg hi]
        by_cases h2 : i < k
        · rw [if_pos (by omega), if_pos h2]
        · rw [if_neg (by omega), if_neg h2]
    rw [e1, sm_pick _ _ _ _ (by omega)]
    congr 1
    refine sm_congr fun i _ => ?_
    by_cases hi : i = k
    · subst hi; rw [if_pos rfl, if_neg (by omega), zero_mul]
    · rw [if_neg hi]
  · rw [if_neg h, add_zero]
    refine sm_congr fun i hi => ?_
    rw [if_pos (by omega), if_pos (by omega)]

/-! ### 3. Values -/
def ev : List F → F → F
  | [], _ => 0
  | a :: p, x => a + x * ev p x
theorem ev_padd (p q : List F) (x : F) : ev (padd p q) x = ev p x + ev q x := by
  induction p generalizing q with
  | nil => unfold padd; show ev q x = 0 + ev q x; rw [zero_add]
  | cons a p ih =>
    cases q with
    | nil => unfold padd; show ev (a :: p) x = ev (a :: p) x + 0; rw [add_zero]
    | cons b q =>
      unfold padd
      show (a + b) + x * ev (padd p q) x = (a + x * ev p x) + (b + x * ev q x)
      rw [ih, mul_add]; ac_rfl
theorem ev_pscale (a : F) (p : List F) (x : F) : ev (pscale a p) x = a * ev p x := by
  induction p with
  | nil => exact (mul_zero a).symm
  | cons b p ih =>
    show a * b + x * ev (pscale a p) x = a * (b + x * ev p x)
    rw [ih, mul_add]
    congr 1
    ac_rfl
theorem ev_pmul (p q : List F) (x : F) : ev (pmul p q) x = ev p x * ev q x := by
  induction p with
  | nil => exact (zero_mul _).symm
  | cons a p ih =>
    unfold pmul
    rw [ev_padd, ev_pscale]
    show a * ev q x + (0 + x * ev (pmul p q) x) = (a + x * ev p x) * ev q x
    rw [ih, zero_add, add_mul]
    congr 1
    ac_rfl
theorem ev_sm (p : List F) (n : Nat) (h : p.length ≤ n) (x : F) : ev p x = sm n fun i => gt p i * pw x i := by
  induction p generalizing n with
  | nil =>
    refine ((sm_congr fun i _ => ?_).trans (sm_zero n)).symm
    rw [gt_nil, zero_mul]
  | cons a p ih =>
    obtain ⟨m, rfl⟩ : ∃ m, n = m + 1 := ⟨n - 1, by simp at h; omega⟩
    show a + x * ev p x = _
    rw [sm_first, ih m (by simpa using h), ← sm_mul]
    congr 1
    · rw [gt_cons_zero, pw_zero, mul_one]
    · refine sm_congr fun i _ => ?_
      rw [gt_cons_succ, pw_succ]
      ac_rfl
theorem ev_ext {p q : List F} (h : ∀ i, gt p i = gt q i) (x : F) : ev p x = ev q x := by
  rw [ev_sm p (max p.length q.length) (by omega), ev_sm q (max p.length q.length) (by omega)]
  exact sm_congr fun i _ => by rw [h]
theorem ev_tr (p : List F) (x : F) : ev (tr p) x = ev p x := ev_ext (gt_tr p) x

/-! ### 4. Roots -/
/-- a row divided by x and a -/
def qd (a : F) : List F → List F
  | [] => []
  | _ :: p => ev p a :: qd a p
theorem ev_qd (a : F) (p : List F) (x : F) : ev p x = (x + a) * ev (qd a p) x + ev p a := by
  induction p with
  | nil => show (0 : F) = (x + a) * 0 + 0; rw [mul_zero, add_zero]
  | cons c p ih =>
    show c + x * ev p x = (x + a) * (ev p a + x * ev (qd a p) x) + (c + a * ev p a)
    have e1 : x * ev p x = x * ((x + a) * ev (qd a p) x) + x * ev p a := by rw [← mul_add, ← ih]
    have e2 : (x + a) * (ev p a + x * ev (qd a p) x) = (x * ev p a + a * ev p a) + x * ((x + a) * ev (qd a p) x) := by
      rw [mul_add, add_mul]
      congr 1
      ac_rfl
    rw [e1, e2]
    have e3 : ∀ A B C D : F, c + (A + B) = (B + D) + A + (c + D) := by
      intro A B C D
      have : (B + D) + A + (c + D) = (c + (A + B)) + (D + D) := by ac_rfl
      rw [this, add_self, add_zero]
    exact e3 _ _ 0 _
theorem gt_qd (a : F) (p : List F) (i : Nat) : gt (qd a p) i = ev (p.drop (i + 1)) a := by
  induction p generalizing i with
  | nil => simp [qd, gt_nil, ev]
  | cons c p ih =>
    unfold qd
    cases i with
    | zero => simp [gt_cons_zero]
    | succ i => rw [gt_cons_succ, ih]; simp
theorem qd_length (a : F) (p : List F) : (qd a p).length = p.length := by
  induction p with
  | nil => rfl
  | cons c p ih => simp [qd, ih]
theorem ev_zero {p : List F} (h : ∀ i, gt p i = 0) (x : F) : ev p x = 0 := by
  rw [ev_sm p p.length (Nat.le_refl _)]
  refine (sm_congr fun i _ => ?_).trans (sm_zero _)
  rw [h, zero_mul]
theorem ev_drop (p : List F) (i : Nat) (a : F) : ev (p.drop i) a = gt p i + a * ev (p.drop (i + 1)) a := by
  rcases Nat.lt_or_ge i p.length with h | h
  · rw [gt_lt h, List.drop_eq_getElem_cons h]
    rfl
  · rw [gt_ge h, List.drop_eq_nil_of_le h, List.drop_eq_nil_of_le (by omega)]
    show (0 : F) = 0 + a * 0
    rw [mul_zero, add_zero]
/-- a row that is 0 at as many places as it has bytes is 0 -/
theorem zero_of_roots (n : Nat) (p : List F) (xs : List F) (hp : ∀ i, n ≤ i → gt p i = 0) (hx : xs.length = n) (hd : xs.Nodup) (hr : ∀ x ∈ xs, ev p x = 0) : ∀ i, gt p i = 0 := by
  induction n generalizing p xs with
  | zero => exact fun i => hp i (by omega)
  | succ n ih =>
    cases xs with
    | nil => simp at hx
    | cons a xs =>
      rw [List.nodup_cons] at hd
      have ha := hr a List.mem_cons_self
      have hz : ∀ i, n + 1 ≤ i → ev (p.drop i) a = 0 := fun i hi => ev_zero (fun j => by rw [gt_drop]; exact hp _ (by omega)) a
      have h1 := ih (qd a p) xs (fun i hi => by rw [gt_qd]; exact hz _ (by omega)) (by simpa using hx) hd.2 (fun x hx' => by
        have h2 := ev_qd a p x
        rw [ha, add_zero, hr x (List.mem_cons_of_mem _ hx')] at h2
        rcases mul_eq_zero.1 h2.symm with h3 | h3
        · exact absurd (add_eq_zero.1 h3 ▸ hx') hd.1
        · exact h3)
      intro i
      have e0 : ∀ j, ev (p.drop j) a = 0 := by
        intro j
        cases j with
        | zero => exact ha
        | succ j => rw [← gt_qd]; exact h1 j
      have h2 := ev_drop p i a
      rw [e0, e0, mul_zero, add_zero] at h2
      exact h2.symm
/-- two rows with the same values at as many places as either has bytes are the same -/
theorem same_of_values (n : Nat) (p q : List F) (xs : List F) (hp : ∀ i, n ≤ i → gt p i = 0) (hq : ∀ i, n ≤ i → gt q i = 0) (hx : xs.length = n) (hd : xs.Nodup) (h : ∀ x ∈ xs, ev p x = ev q x) : tr p = tr q := by
  refine tr_ext fun i => add_eq_zero.1 ?_
  rw [← gt_padd]
  refine zero_of_roots n (padd p q) xs (fun j hj => by rw [gt_padd, hp j hj, hq j hj, add_zero]) hx hd (fun x hx' => ?_) i
  rw [ev_padd, h x hx', add_self]
end Go.Proofs.YtbphbogolffanaaDoor
