/-
  LAYER 5: the polynomial that is 0 at places alone, and the mathematics of decoding. No conditions.
-/
import Derived.Test.YtcodgamhgfafnaaRef6
import Derived.Test.YtcodgamhgfafnaaLin2
namespace Go.Proofs.Ytcodgamhgfafnaa
open Go.RowKit
set_option maxRecDepth 100000
set_option linter.unusedVariables false

/-- the polynomial that is 0 at the first k places alone -/
def ntF (xs : List F) : Nat → List F
  | 0 => [1]
  | k + 1 => tr (pmul (ntF xs k) [gt xs k, 1])
theorem ntF_length (xs : List F) (k : Nat) : (ntF xs k).length ≤ k + 1 := by
  induction k with
  | zero => exact Nat.le_refl _
  | succ k ih => exact tr_pmul_le _ _ k 1 ih (by simp)
theorem ev_ntF (xs : List F) (k : Nat) (x : F) : ev (ntF xs (k + 1)) x = ev (ntF xs k) x * (gt xs k + x) := by
  show ev (tr (pmul (ntF xs k) [gt xs k, 1])) x = _
  rw [ev_tr, ev_pmul, ev_lin]
set_option maxHeartbeats 2000000 in
theorem noughtAt_c (A : Option Addr) (n c : Nat) (xs : List F) (w : World) (h : Row w A n xs) (hn : n ≤ 65536) :
    Calls Try.prog 27 #[.slice A n c] w fun e w' => ∃ A' t c', e = .returned (.slice A' t c') ∧ RowIn w' A' t c' (ntF xs n) ∧ Below w.heap.size w w' := by
  go_enter Try.func27, Try.ntmps27
  go_wp2
  go_loopw [3, 9] (fun v i wr => ∃ (k : Nat) (Z : Option Addr) (t cz : Nat), k ≤ n ∧ i = .int .i64 k ∧ v = .slice Z t cz ∧ RowIn wr Z t cz (ntF xs k) ∧ Hid (t ≤ k + 1) ∧ Below w.heap.size w wr) (fun _ i _ => n - (intOf i).toNat)
  case atStart => exact ⟨0, _, 1, 1, by omega, rfl, rfl, ⟨row_lit w [1] 1 _ rfl rfl (by unfold maxLen; simp) _ rfl _, Nat.le_refl _, by unfold maxLen; omega⟩, Nat.le_refl _, (Below.refl _ _).alloc (Nat.le_refl _) _⟩
  case round =>
    obtain ⟨k, Z, t, cz, hk, rfl, rfl, hZ, ht, hbel⟩ := hrel
    by_cases hlt : k < n
    · have hkn : (k : Int) < n := by omega
      obtain ⟨b1, o1, rfl, l1, h1⟩ := h.at_ hlt
      replace h1 := (hbel.cell (p := ⟨b1, o1 + k, none⟩) l1).trans h1
      have hZ5 := hZ.row.alloc (.cells #[.int .u8 (gt xs k).n, .int .u8 1] 5)
      have hX5 : Row (wr.alloc (.cells #[.int .u8 (gt xs k).n, .int .u8 1] 5)) (some ⟨wr.heap.size, 0, none⟩) 2 [gt xs k, 1] := row_lit wr [gt xs k, 1] 2 _ rfl rfl (by unfold maxLen; simp) _ rfl _
      have hbel5 := hbel.alloc hbel.size (.cells #[.int .u8 (gt xs k).n, .int .u8 1] 5)
      have ht2 := ht.out
      have hlen := Lib.hid (ntF_length xs (k + 1))
      go_wp2_with fail
      refine (Mul_poly Z _ t 2 cz 2 (ntF xs k) [gt xs k, 1] _ hZ5 hX5 hZ.le (Nat.le_refl _) hZ.max (by unfold maxLen; omega) (by omega) (by omega)).mono ?_
      rintro e w6 ⟨Z2, t2, c2, rfl, hown6, hb6⟩
      have hbel6 := hbel5.trans (hb6.mono hbel5.size)
      have ht6 : Hid (t2 ≤ k + 1 + 1) := by
        have := (Row.of_own hown6).len
        unfold Hid
        rw [← this]
        exact hlen.out
      have hown7 : RowIn w6 Z2 t2 c2 (ntF xs (k + 1)) := own_in hown6
      clear hown6 hb6 hbel5 hX5 hZ5 hZ hbel h1
      go_wp2
      go_roundw
      case rel => exact ⟨k + 1, Z2, t2, c2, by omega, by go_num, rfl, hown7, ht6, hbel6⟩
      case measure => simp [intOf]; omega
    · obtain rfl : k = n := by omega
      go_wp2
      go_ret
      exact ⟨Z, t, cz, rfl, hZ, hbel⟩

/-! ### The polynomial that is 0 at places alone -/
theorem ntF_ge (xs : List F) (k i : Nat) (h : k < i) : gt (ntF xs k) i = 0 := gt_ge (by have := ntF_length xs k; omega)
theorem ntF_top (xs : List F) (k : Nat) : gt (ntF xs k) k = 1 := by
  induction k with
  | zero => rfl
  | succ k ih =>
    show gt (tr (pmul (ntF xs k) [gt xs k, 1])) (k + 1) = 1
    rw [gt_tr, pmul_top _ _ k 1 (ntF_ge xs k) (fun i hi => gt_ge (by simp; omega)), ih]
    exact one_mul _
theorem ntF_zero (xs : List F) (k : Nat) {j : Nat} (h : j < k) : ev (ntF xs k) (gt xs j) = 0 := by
  induction k with
  | zero => omega
  | succ k ih =>
    rw [ev_ntF]
    rcases Nat.lt_or_ge j k with h1 | h1
    · rw [ih h1, zero_mul]
    · obtain rfl : j = k := by omega
      rw [add_self, mul_zero]
theorem ntF_root (xs : List F) (k : Nat) (x : F) (h : ev (ntF xs k) x = 0) : ∃ j, j < k ∧ gt xs j = x := by
  induction k with
  | zero =>
    have h1 : (1 : F) + x * 0 = 0 := h
    rw [mul_zero, add_zero] at h1
    exact absurd h1 one_ne_zero
  | succ k ih =>
    rw [ev_ntF] at h
    rcases mul_eq_zero.1 h with h1 | h1
    · obtain ⟨j, hj, e⟩ := ih h1
      exact ⟨j, by omega, e⟩
    · exact ⟨k, by omega, add_eq_zero.1 h1⟩
theorem ntF_congr {xs xs' : List F} (k : Nat) (h : ∀ i, i < k → gt xs i = gt xs' i) : ntF xs k = ntF xs' k := by
  induction k with
  | zero => rfl
  | succ k ih => unfold ntF; rw [ih fun i hi => h i (by omega), h k (by omega)]

/-! ### A row divided by it -/
def quo (xs p : List F) : Nat → List F
  | 0 => p
  | k + 1 => qd (gt xs k) (quo xs p k)
theorem quo_spec (xs p : List F) (n : Nat) (hd : ∀ i j, i < n → j < n → gt xs i = gt xs j → i = j) (hr : ∀ i, i < n → ev p (gt xs i) = 0) (k : Nat) (hk : k ≤ n) :
    ∀ x, ev p x = ev (ntF xs k) x * ev (quo xs p k) x := by
  induction k with
  | zero =>
    intro x
    show ev p x = (1 + x * 0) * ev p x
    rw [mul_zero, add_zero, one_mul]
  | succ k ih =>
    have ih := ih (by omega)
    have h0 : ev (quo xs p k) (gt xs k) = 0 := by
      have h1 := ih (gt xs k)
      rw [hr k (by omega)] at h1
      rcases mul_eq_zero.1 h1.symm with h2 | h2
      · obtain ⟨j, hj, e⟩ := ntF_root xs k _ h2
        have := hd j k (by omega) (by omega) e
        omega
      · exact h2
    intro x
    rw [ih x, ev_ntF, ev_qd (gt xs k) (quo xs p k) x, h0, add_zero]
    show _ = ev (ntF xs k) x * (gt xs k + x) * ev (qd (gt xs k) (quo xs p k)) x
    rw [add_comm x, mul_assoc]
theorem qd_ge {p : List F} {a : F} {D : Nat} (h : ∀ i, D + 1 ≤ i → gt p i = 0) : ∀ i, D ≤ i → gt (qd a p) i = 0 := fun i hi => by
  rw [gt_qd]
  exact ev_zero (fun j => by rw [gt_drop]; exact h _ (by omega)) a
theorem quo_ge (xs p : List F) (D k : Nat) (h : ∀ i, D + k ≤ i → gt p i = 0) : ∀ i, D ≤ i → gt (quo xs p k) i = 0 := by
  induction k generalizing D with
  | zero => exact h
  | succ k ih => exact qd_ge (ih (D + 1) fun i hi => h i (by omega))
theorem pmul_lt (p q : List F) (a b : Nat) (hp : ∀ i, a < i → gt p i = 0) (hq : ∀ i, b ≤ i → gt q i = 0) (r : Nat) (hr : a + b ≤ r) : gt (pmul p q) r = 0 := by
  rw [gt_pmul]
  refine (sm_congr fun i hi => ?_).trans (sm_zero _)
  rcases Nat.lt_or_ge a i with h | h
  · rw [hp i h, zero_mul]
  · rw [hq _ (by omega), mul_zero]
theorem tr_short {l : List F} {n : Nat} (h : ∀ i, n ≤ i → gt l i = 0) : (tr l).length ≤ n := by
  rw [tr_length]
  exact tl_le_of _ _ _ h

/-! ### Counting places -/
def cnt (b : Nat → Bool) : Nat → Nat
  | 0 => 0
  | k + 1 => cnt b k + (b k).toNat
theorem cnt_not (b : Nat → Bool) (k : Nat) : cnt b k + cnt (fun i => !b i) k = k := by
  induction k with
  | zero => rfl
  | succ k ih =>
    unfold cnt
    cases h : b k <;> simp <;> omega
theorem cnt_or (a b : Nat → Bool) (k : Nat) : cnt (fun i => a i || b i) k ≤ cnt a k + cnt b k := by
  induction k with
  | zero => exact Nat.le_refl _
  | succ k ih =>
    unfold cnt
    cases h : a k <;> cases h2 : b k <;> simp <;> omega
theorem cnt_congr {a b : Nat → Bool} {k : Nat} (h : ∀ i, i < k → a i = b i) : cnt a k = cnt b k := by
  induction k with
  | zero => rfl
  | succ k ih => unfold cnt; rw [ih fun i hi => h i (by omega), h k (by omega)]
theorem cnt_le (b : Nat → Bool) (k : Nat) : cnt b k ≤ k := by have := cnt_not b k; omega
def pick (xs : List F) (b : Nat → Bool) : Nat → List F
  | 0 => []
  | k + 1 => if b k = true then pick xs b k ++ [gt xs k] else pick xs b k
theorem pick_length (xs : List F) (b : Nat → Bool) (k : Nat) : (pick xs b k).length = cnt b k := by
  induction k with
  | zero => rfl
  | succ k ih =>
    unfold pick cnt
    cases h : b k <;> simp [ih]
theorem pick_mem (xs : List F) (b : Nat → Bool) (k : Nat) (x : F) : x ∈ pick xs b k ↔ ∃ i, i < k ∧ b i = true ∧ gt xs i = x := by
  induction k with
  | zero => simp [pick]
  | succ k ih =>
    unfold pick
    constructor
    · intro h
      split at h
      · rename_i hb
        rw [List.mem_append, List.mem_singleton] at h
        rcases h with h | h
        · obtain ⟨i, h1, h2⟩ := ih.1 h
          exact ⟨i, by omega, h2⟩
        · exact ⟨k, by omega, hb, h.symm⟩
      · obtain ⟨i, h1, h2⟩ := ih.1 h
        exact ⟨i, by omega, h2⟩
    · rintro ⟨i, h1, h2, h3⟩
      rcases Nat.lt_or_ge i k with h4 | h4
      · have h5 := ih.2 ⟨i, h4, h2, h3⟩
        split
        · exact List.mem_append_left _ h5
        · exact h5
      · obtain rfl : i = k := by omega
        rw [if_pos h2, ← h3]
        simp
theorem pick_nodup (xs : List F) (b : Nat → Bool) (t k : Nat) (hk : k ≤ t) (hd : ∀ i j, i < t → j < t → gt xs i = gt xs j → i = j) : (pick xs b k).Nodup := by
  induction k with
  | zero => exact List.nodup_nil
  | succ k ih =>
    have ih := ih (by omega)
    unfold pick
    split
    · rw [List.nodup_append]
      refine ⟨ih, by simp, fun a ha c hc e => ?_⟩
      rw [List.mem_singleton] at hc
      obtain ⟨i, h1, h2, h3⟩ := (pick_mem xs b k a).1 ha
      have := hd i k (by omega) (by omega) (by rw [h3, e, hc])
      omega
    · exact ih
/-- as many places of a kind as are wanted -/
theorem some_of (xs : List F) (b : Nat → Bool) (t m : Nat) (hd : ∀ i j, i < t → j < t → gt xs i = gt xs j → i = j) (hm : m ≤ cnt b t) :
    ∃ L : List F, L.length = m ∧ L.Nodup ∧ ∀ x ∈ L, ∃ i, i < t ∧ b i = true ∧ gt xs i = x :=
  ⟨(pick xs b t).take m, by rw [List.length_take, pick_length]; omega, (pick_nodup xs b t t (Nat.le_refl _) hd).sublist (List.take_sublist _ _), fun x hx => (pick_mem xs b t x).1 (List.mem_of_mem_take hx)⟩

/-! ### Decoding -/
structure Sit (xs ys G Z : List F) (t n : Nat) : Prop where
  inj : ∀ i j, i < t → j < t → gt xs i = gt xs j → i = j
  nt : n ≤ t
  gv : ∀ i, i < n → ev G (gt xs i) = gt ys i
  gl : ∀ i, n ≤ i → gt G i = 0
  z : ∀ x, ev Z x = ev (ntF xs n) x
  zl : ∀ i, n < i → gt Z i = 0
def wrongAt (xs ys P : List F) (i : Nat) : Bool := decide (ev P (gt xs i) ≠ gt ys i)
structure Fit (xs ys : List F) (t n e : Nat) (P : List F) : Prop where
  tt : tr P = P
  le : P.length ≤ n
  few : cnt (wrongAt xs ys P) t ≤ e
theorem Fit.mono {xs ys P : List F} {t n e e' : Nat} (h : Fit xs ys t n e P) (he : e ≤ e') : Fit xs ys t n e' P := ⟨h.tt, h.le, Nat.le_trans h.few he⟩
theorem right_at {xs ys P : List F} {i : Nat} (h : (!wrongAt xs ys P i) = true) : ev P (gt xs i) = gt ys i := by
  unfold wrongAt at h
  simpa using h
theorem wrong_iff {xs ys P : List F} {i : Nat} : wrongAt xs ys P i = true ↔ ev P (gt xs i) ≠ gt ys i := by unfold wrongAt; simp
theorem Fit.unique {xs ys P P' : List F} {t n e : Nat} (hd : ∀ i j, i < t → j < t → gt xs i = gt xs j → i = j) (he : 2 * e + n ≤ t) (h : Fit xs ys t n e P) (h' : Fit xs ys t n e P') : P = P' := by
  have h1 := cnt_not (fun i => wrongAt xs ys P i || wrongAt xs ys P' i) t
  have h2 := cnt_or (wrongAt xs ys P) (wrongAt xs ys P') t
  have h3 := h.few
  have h4 := h'.few
  obtain ⟨L, l1, l2, l3⟩ := some_of xs (fun i => !(wrongAt xs ys P i || wrongAt xs ys P' i)) t n hd (by omega)
  refine same_at h.tt h'.tt h.le h'.le l1 l2 fun x hx => ?_
  obtain ⟨i, hi, hb, rfl⟩ := l3 x hx
  simp only [Bool.not_or, Bool.and_eq_true] at hb
  rw [right_at hb.1, right_at hb.2]

theorem ev_snoc (p : List F) (few : Nat) (h : p.length = few) (x : F) : ev (p ++ [1]) x = ev p x + pw x few := by
  rw [ev_sm (p ++ [1]) (few + 1) (by simp [h]), ev_sm p few (by omega)]
  show (sm few fun i => gt (p ++ [1]) i * pw x i) + gt (p ++ [1]) few * pw x few = _
  rw [gt_append, if_neg (by omega), h, Nat.sub_self, gt_cons_zero, one_mul]
  congr 1
  exact sm_congr fun i hi => by rw [gt_append, if_pos (by omega)]
/-- a check's row -/
def rowC (d z x : F) (few : Nat) : Nat → F := fun j => if j < few then d * pw x j else z * pw x (j - few)
theorem row_eq (d z x : F) (few : Nat) (v : List F) (hv : v.length = few + few) :
    dt (few + few) (rowC d z x few) (gt v) = d * pw x few ↔ d * ev (v.take few ++ [1]) x = z * ev (v.drop few) x := by
  have hl : (v.take few).length = few := by rw [List.length_take]; omega
  have hl2 : (v.drop few).length = few := by rw [List.length_drop]; omega
  have e : dt (few + few) (rowC d z x few) (gt v) = d * ev (v.take few) x + z * ev (v.drop few) x := by
    unfold dt
    rw [sm_split, ev_sm (v.take few) few (by omega), ev_sm (v.drop few) few (by omega), ← sm_mul, ← sm_mul]
    congr 1
    · refine sm_congr fun i hi => ?_
      unfold rowC
      rw [if_pos hi, gt_take, if_pos hi]
      ac_rfl
    · refine sm_congr fun i hi => ?_
      unfold rowC
      rw [if_neg (by omega), gt_drop, show few + i - few = i by omega]
      ac_rfl
  rw [e, ev_snoc _ few hl, mul_add]
  constructor
  · intro h
    rw [← h, add_add_cancel]
  · intro h
    rw [← h, add_add_cancel]

theorem fd_top (v : List F) (few : Nat) (hv : few ≤ v.length) : gt (v.take few ++ [1]) few = 1 := by
  have hl : (v.take few).length = few := by rw [List.length_take]; omega
  rw [gt_append, if_neg (by omega), hl, Nat.sub_self]
  rfl
theorem fd_ge (v : List F) (few i : Nat) (hv : few ≤ v.length) (h : few < i) : gt (v.take few ++ [1]) i = 0 := gt_ge (by
  rw [List.length_append, List.length_take]; simp; omega)
/-- the check at a place behind the first ones -/
def lackAt (xs ys G : List F) (n i : Nat) : F := gt ys (n + i) + ev G (gt xs (n + i))
def Sys (xs ys G Z : List F) (t n few : Nat) (v : List F) : Prop := ∀ i, i < t - n → lackAt xs ys G n i * ev (v.take few ++ [1]) (gt xs (n + i)) = ev Z (gt xs (n + i)) * ev (v.drop few) (gt xs (n + i))
/-- what leaves no rest fits -/
theorem sound {xs ys G Z : List F} {t n few : Nat} (S : Sit xs ys G Z t n) {v : List F} (hv : v.length = few + few) (hs : Sys xs ys G Z t n few v)
    {p u : List F} (hp : ∀ i, gt p i = gt (pmul Z (v.drop few)) i) (hd : IsDiv p (v.take few ++ [1]) u []) : Fit xs ys t n few (tr (padd G u)) := by
  have hval : ∀ x, ev Z x * ev (v.drop few) x = ev u x * ev (v.take few ++ [1]) x := fun x => by
    rw [← ev_pmul, ← ev_pmul]
    exact ev_ext (fun i => by rw [← hp i, hd.eq i, gt_nil, add_zero]) x
  have hu : ∀ i, n ≤ i → gt u i = 0 := fun i hi => by
    rcases Nat.lt_or_ge n u.length with h | h
    · exfalso
      have h1 : gt u (u.length - 1) ≠ 0 := by
        have := tr_last (l := u) (by rw [hd.tu]; intro e; rw [e] at h; simp at h)
        rwa [hd.tu] at this
      have h2 := pmul_top u (v.take few ++ [1]) (u.length - 1) few (fun i hi => gt_ge (by omega)) (fun i hi => fd_ge v few i (by omega) hi)
      rw [fd_top v few (by omega), mul_one] at h2
      have h3 := hd.eq (u.length - 1 + few)
      rw [hp, pmul_lt Z (v.drop few) n few S.zl (fun i hi => gt_ge (by rw [List.length_drop]; omega)) _ (by omega), h2, gt_nil, add_zero] at h3
      exact h1 h3.symm
    · exact gt_ge (by omega)
  refine ⟨tr_tr _, tr_short fun i hi => by rw [gt_padd, S.gl i hi, hu i hi, add_zero], ?_⟩
  rcases Nat.lt_or_ge few (cnt (wrongAt xs ys (tr (padd G u))) t) with hc | hc
  · exfalso
    obtain ⟨L, l1, l2, l3⟩ := some_of xs (wrongAt xs ys (tr (padd G u))) t (few + 1) S.inj (by omega)
    have h0 := zero_of_roots (few + 1) (v.take few ++ [1]) L (fun i hi => fd_ge v few i (by omega) (by omega)) l1 l2 (fun x hx => by
      obtain ⟨i, hi, hb, rfl⟩ := l3 x hx
      rw [wrong_iff, ev_tr, ev_padd] at hb
      rcases Nat.lt_or_ge i n with h | h
      · have h1 := hval (gt xs i)
        rw [S.z, ntF_zero xs n h, zero_mul] at h1
        rcases mul_eq_zero.1 h1.symm with h2 | h2
        · rw [S.gv i h, h2, add_zero] at hb
          exact absurd rfl hb
        · exact h2
      · have h1 := hs (i - n) (by omega)
        rw [show n + (i - n) = i by omega] at h1
        unfold lackAt at h1
        rw [show n + (i - n) = i by omega, hval] at h1
        rw [← add_eq_zero, ← add_mul] at h1
        rcases mul_eq_zero.1 h1 with h2 | h2
        · refine absurd ?_ hb
          have h3 := add_eq_zero.1 h2
          rw [← h3]
          rw [add_comm (gt ys i), add_add_cancel]
        · exact h2) few
    rw [fd_top v few (by omega)] at h0
    exact one_ne_zero h0
  · exact hc
/-- where something fits, the equations have a solution -/
theorem complete_sys {xs ys G Z : List F} {t n few : Nat} (S : Sit xs ys G Z t n) {P : List F} (hP : Fit xs ys t n few P) : ∃ v : List F, v.length = few + few ∧ Sys xs ys G Z t n few v := by
  obtain ⟨es, hes⟩ : ∃ es, es = pick xs (wrongAt xs ys P) t ++ List.replicate (few - cnt (wrongAt xs ys P) t) 0 := ⟨_, rfl⟩
  have hfew := hP.few
  have hel : es.length = few := by rw [hes, List.length_append, pick_length, List.length_replicate]; omega
  have hFz : ∀ i, i < t → wrongAt xs ys P i = true → ev (ntF es few) (gt xs i) = 0 := fun i hi hb => by
    have h1 : gt xs i ∈ es := by rw [hes]; exact List.mem_append_left _ ((pick_mem _ _ _ _).2 ⟨i, hi, hb, rfl⟩)
    obtain ⟨j, hj, e⟩ := mem_gt h1
    rw [← e]
    exact ntF_zero es few (by omega)
  have hL : ∀ i, n ≤ i → gt (padd P G) i = 0 := fun i hi => by rw [gt_padd, gt_ge (l := P) (by have := hP.le; omega), S.gl i hi, add_zero]
  have hW : ∀ i, few + n ≤ i → gt (pmul (padd P G) (ntF es few)) i = 0 := fun i hi => by
    rw [pmul_comm]
    exact pmul_lt _ _ few n (ntF_ge es few) hL i hi
  have hWr : ∀ i, i < n → ev (pmul (padd P G) (ntF es few)) (gt xs i) = 0 := fun i hi => by
    rw [ev_pmul, ev_padd]
    cases hb : wrongAt xs ys P i with
    | true => rw [hFz i (by have := S.nt; omega) hb, mul_zero]
    | false =>
      rw [right_at (by rw [hb]; rfl), S.gv i hi, add_self, zero_mul]
  have hq := quo_spec xs (pmul (padd P G) (ntF es few)) n (fun i j hi hj => S.inj i j (by have := S.nt; omega) (by have := S.nt; omega)) hWr n (Nat.le_refl _)
  have hqg := quo_ge xs (pmul (padd P G) (ntF es few)) few n hW
  refine ⟨mkF (gt (ntF es few)) few ++ mkF (gt (quo xs (pmul (padd P G) (ntF es few)) n)) few, by rw [List.length_append, mkF_length, mkF_length], fun i hi => ?_⟩
  have e1 : (mkF (gt (ntF es few)) few ++ mkF (gt (quo xs (pmul (padd P G) (ntF es few)) n)) few).take few = mkF (gt (ntF es few)) few := by
    rw [List.take_append_of_le_length (by rw [mkF_length]; exact Nat.le_refl _), List.take_of_length_le (by rw [mkF_length]; exact Nat.le_refl _)]
  have e2 : (mkF (gt (ntF es few)) few ++ mkF (gt (quo xs (pmul (padd P G) (ntF es few)) n)) few).drop few = mkF (gt (quo xs (pmul (padd P G) (ntF es few)) n)) few := by
    rw [List.drop_append_of_le_length (by rw [mkF_length]; exact Nat.le_refl _), List.drop_of_length_le (by rw [mkF_length]; exact Nat.le_refl _)]
    rfl
  rw [e1, e2]
  have e3 : ∀ x, ev (mkF (gt (ntF es few)) few ++ [1]) x = ev (ntF es few) x := fun x => ev_ext (fun i => by
    rw [gt_append, mkF_length]
    split
    · rename_i h
      rw [gt_mkF, if_pos h]
    · rename_i h
      rcases Nat.eq_or_lt_of_le (Nat.le_of_not_lt h) with h1 | h1
      · rw [← h1, Nat.sub_self, ntF_top]
        rfl
      · rw [ntF_ge es few i h1]
        exact gt_ge (by simp; omega)) x
  have e4 : ∀ x, ev (mkF (gt (quo xs (pmul (padd P G) (ntF es few)) n)) few) x = ev (quo xs (pmul (padd P G) (ntF es few)) n) x := fun x => ev_ext (fun i => by
    rw [gt_mkF]
    split
    · rfl
    · exact (hqg i (by omega)).symm) x
  rw [e3, e4, S.z, ← hq, ev_pmul, ev_padd]
  unfold lackAt
  cases hb : wrongAt xs ys P (n + i) with
  | true => rw [hFz (n + i) (by omega) hb, mul_zero, mul_zero]
  | false => rw [right_at (i := n + i) (P := P) (ys := ys) (xs := xs) (by rw [hb]; rfl)]
/-- and each of their solutions tells it -/
theorem complete_all {xs ys G Z : List F} {t n few : Nat} (S : Sit xs ys G Z t n) (he : 2 * few + n ≤ t) {P : List F} (hP : Fit xs ys t n few P) {v : List F} (hv : v.length = few + few) (hs : Sys xs ys G Z t n few v)
    {p u r : List F} (hp : ∀ i, gt p i = gt (pmul Z (v.drop few)) i) (hd : IsDiv p (v.take few ++ [1]) u r) : r = [] ∧ tr (padd G u) = P := by
  have hL : ∀ i, n ≤ i → gt (padd P G) i = 0 := fun i hi => by rw [gt_padd, gt_ge (l := P) (by have := hP.le; omega), S.gl i hi, add_zero]
  have hfew := hP.few
  have hc := cnt_not (wrongAt xs ys P) t
  obtain ⟨L, l1, l2, l3⟩ := some_of xs (fun i => !wrongAt xs ys P i) t (few + n) S.inj (by omega)
  have hH := zero_of_roots (few + n) (padd (pmul (padd P G) (v.take few ++ [1])) (pmul Z (v.drop few))) L (fun i hi => by
    rw [gt_padd, pmul_comm, pmul_lt _ _ few n (fun i hi => fd_ge v few i (by omega) hi) hL i hi, pmul_lt Z (v.drop few) n few S.zl (fun i hi => gt_ge (by rw [List.length_drop]; omega)) i (by omega), add_zero]) l1 l2 (fun x hx => by
    obtain ⟨i, hi, hb, rfl⟩ := l3 x hx
    have hr := right_at hb
    rw [ev_padd, ev_pmul, ev_pmul, ev_padd, hr]
    rcases Nat.lt_or_ge i n with h | h
    · rw [S.gv i h, add_self, zero_mul, S.z, ntF_zero xs n h, zero_mul, add_zero]
    · have h1 := hs (i - n) (by omega)
      unfold lackAt at h1
      rw [show n + (i - n) = i by omega] at h1
      rw [h1, add_self])
  have hdv : IsDiv p (v.take few ++ [1]) (tr (padd P G)) [] := ⟨fun i => by
      have h1 := hH i
      rw [gt_padd] at h1
      rw [hp, ← add_eq_zero.1 h1, gt_nil, add_zero]
      exact pmul_ext (fun i => (gt_tr _ i).symm) (fun i => rfl) i, by
      refine List.length_pos_iff.2 fun e => ?_
      have h1 := (tr_nil_iff _).1 e few
      rw [fd_top v few (by omega)] at h1
      exact one_ne_zero h1, tr_tr _, rfl⟩
  obtain ⟨h1, h2⟩ := hd.unique hdv
  refine ⟨h2, ?_⟩
  rw [h1]
  refine Eq.trans (tr_ext fun i => ?_) hP.tt
  rw [gt_padd, gt_tr, gt_padd, add_comm (gt P i), add_add_cancel]
end Go.Proofs.Ytcodgamhgfafnaa
