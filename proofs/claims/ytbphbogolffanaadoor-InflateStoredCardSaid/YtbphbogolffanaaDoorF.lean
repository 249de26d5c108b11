/-
  THE FIELD OF BYTES, WITHOUT ANY PROGRAM: sums, products, powers, inverses, and their laws. No conditions.
-/
import Derived.Test.YtbphbogolffanaaDoorFn
namespace Go.Proofs.YtbphbogolffanaaDoor

/-- A byte as a member of the field. -/
def F : Type := UInt8
def F.n (x : F) : Nat := UInt8.toNat x
def ofN (k : Nat) : F := UInt8.ofNat k
def toB (x : F) : UInt8 := x
def ofB (x : UInt8) : F := x

instance : DecidableEq F := inferInstanceAs (DecidableEq UInt8)
instance : Inhabited F := ⟨ofN 0⟩
instance : OfNat F 0 := ⟨ofN 0⟩
instance : OfNat F 1 := ⟨ofN 1⟩

theorem F.lt (x : F) : x.n < 256 := UInt8.toNat_lt x
theorem F.ext {x y : F} (h : x.n = y.n) : x = y := UInt8.toNat_inj.1 h
theorem F.inj {x y : F} : x.n = y.n ↔ x = y := ⟨F.ext, fun h => h ▸ rfl⟩
theorem ofN_n (k : Nat) (h : k < 256) : (ofN k).n = k := by
  show (UInt8.ofNat k).toNat = k
  simp
  omega
theorem n_ofN (x : F) : ofN x.n = x := F.ext (ofN_n _ x.lt)
theorem n_zero : (0 : F).n = 0 := rfl
theorem n_one : (1 : F).n = 1 := rfl
theorem n_eq_zero {x : F} : x.n = 0 ↔ x = 0 := ⟨fun h => F.ext h, fun h => h ▸ rfl⟩

theorem txN_zero : txN 0 = 0 := rfl

theorem selN_add (b x y : Nat) : selN b (x ^^^ y) = selN b x ^^^ selN b y := by unfold selN; split <;> simp
theorem selN_bit (b c x : Nat) : selN (b ^^^ c) x = selN b x ^^^ selN c x := by
  unfold selN
  have h : (b ^^^ c) % 2 = b % 2 ^^^ c % 2 := Nat.xor_mod_two_pow (n := 1)
  rw [h]
  rcases Nat.mod_two_eq_zero_or_one b with hb | hb <;> rcases Nat.mod_two_eq_zero_or_one c with hc | hc <;> simp [hb, hc]
theorem txN_sel (b x : Nat) : txN (selN b x) = selN b (txN x) := by unfold selN; split <;> simp [txN_zero]

theorem xor4 (a b c d : Nat) : (a ^^^ b) ^^^ (c ^^^ d) = (a ^^^ c) ^^^ (b ^^^ d) := by
  rw [Nat.xor_assoc, Nat.xor_assoc, ← Nat.xor_assoc b c d, Nat.xor_comm b c, Nat.xor_assoc c b d]

theorem mulN_add_left (k p q a b c : Nat) (ha : a < 256) (hb : b < 256) : mulN k (p ^^^ q) (a ^^^ b) c = mulN k p a c ^^^ mulN k q b c := by
  induction k generalizing p q a b c with
  | zero => rfl
  | succ k ih =>
    show mulN k ((p ^^^ q) ^^^ selN c (a ^^^ b)) (txN (a ^^^ b)) (c / 2) = _
    rw [selN_add, xor4, txN_add ha hb]
    exact ih _ _ _ _ _ (txN_lt a ha) (txN_lt b hb)
theorem half_xor (b c : Nat) : (b ^^^ c) / 2 = b / 2 ^^^ c / 2 := by
  exact Nat.xor_div_two
theorem mulN_add_right (k p q a b c : Nat) : mulN k (p ^^^ q) a (b ^^^ c) = mulN k p a b ^^^ mulN k q a c := by
  induction k generalizing p q a b c with
  | zero => rfl
  | succ k ih =>
    show mulN k ((p ^^^ q) ^^^ selN (b ^^^ c) a) (txN a) ((b ^^^ c) / 2) = _
    rw [selN_bit, xor4, half_xor]
    exact ih _ _ _ _ _
theorem mulN_tx (k p a b : Nat) (hp : p < 256) (ha : a < 256) : mulN k (txN p) (txN a) b = txN (mulN k p a b) := by
  induction k generalizing p a b with
  | zero => rfl
  | succ k ih =>
    show mulN k (txN p ^^^ selN b (txN a)) (txN (txN a)) (b / 2) = txN (mulN k (p ^^^ selN b a) (txN a) (b / 2))
    rw [← ih _ _ _ (xor_lt hp (selN_lt b a ha)) (txN_lt a ha), txN_add hp (selN_lt b a ha), txN_sel]
theorem mulN_comm {a b : Nat} (ha : a < 256) (hb : b < 256) : mulN 8 0 a b = mulN 8 0 b a := by
  refine lin_ext (fun b => mulN 8 0 a b) (fun b => mulN 8 0 b a) (fun x y _ _ => mulN_add_right 8 0 0 a x y) (fun x y hx hy => mulN_add_left 8 0 0 x y a hx hy) ?_ ?_ b hb
  · show mulN 8 0 a 0 = mulN 8 0 0 a
    have h : ∀ k, mulN k 0 0 a = 0 := by
      intro k
      induction k generalizing a with
      | zero => rfl
      | succ k ih =>
        have h : mulN (k + 1) 0 0 a = mulN k 0 0 (a / 2) := by simp [mulN, selN, txN_zero]
        rw [h]
        exact ih (by omega)
    rw [h]
    simp [mulN, selN]
  · intro i hi
    exact Nat.eq_of_beq_eq_true (allLt_at (allLt_at mul_comm_all ha) hi)
theorem mulN_zero (k a : Nat) : mulN k 0 a 0 = 0 := by
  induction k generalizing a with
  | zero => rfl
  | succ k ih =>
    have h : mulN (k + 1) 0 a 0 = mulN k 0 (txN a) 0 := by simp [mulN, selN]
    rw [h, ih]
theorem mulN_assoc (k a p b c : Nat) (ha : a < 256) (hp : p < 256) (hb : b < 256) : mulN k (mulN 8 0 a p) (mulN 8 0 a b) c = mulN 8 0 a (mulN k p b c) := by
  induction k generalizing p b c with
  | zero => rfl
  | succ k ih =>
    show mulN k (mulN 8 0 a p ^^^ selN c (mulN 8 0 a b)) (txN (mulN 8 0 a b)) (c / 2) = mulN 8 0 a (mulN k (p ^^^ selN c b) (txN b) (c / 2))
    rw [← ih _ _ _ (xor_lt hp (selN_lt c b hb)) (txN_lt b hb)]
    have h1 : mulN 8 0 a (p ^^^ selN c b) = mulN 8 0 a p ^^^ mulN 8 0 a (selN c b) := mulN_add_right 8 0 0 a p (selN c b)
    have h2 : mulN 8 0 a (selN c b) = selN c (mulN 8 0 a b) := by unfold selN; split <;> simp [mulN_zero]
    have h3 : txN (mulN 8 0 a b) = mulN 8 0 a (txN b) := by
      rw [mulN_comm ha hb, mulN_comm ha (txN_lt b hb), ← mulN_tx 8 0 b a (by omega) hb]
      rfl
    rw [h1, h2, h3]

/-! ### 2. The field -/
instance : Add F := ⟨fun a b => ofN (a.n ^^^ b.n)⟩
instance : Mul F := ⟨fun a b => ofN (mulN 8 0 a.n b.n)⟩
theorem add_n (a b : F) : (a + b).n = a.n ^^^ b.n := ofN_n _ (xor_lt a.lt b.lt)
theorem mul_n (a b : F) : (a * b).n = mulN 8 0 a.n b.n := ofN_n _ (mulN_lt 8 0 _ _ (by omega) a.lt)
theorem add_comm (a b : F) : a + b = b + a := F.ext (by rw [add_n, add_n, Nat.xor_comm])
theorem add_assoc (a b c : F) : a + b + c = a + (b + c) := F.ext (by rw [add_n, add_n, add_n, add_n, Nat.xor_assoc])
theorem add_zero (a : F) : a + 0 = a := F.ext (by rw [add_n, n_zero, Nat.xor_zero])
theorem zero_add (a : F) : 0 + a = a := by rw [add_comm, add_zero]
theorem add_self (a : F) : a + a = 0 := F.ext (by rw [add_n, Nat.xor_self]; rfl)
theorem add_add_cancel (a b : F) : a + (a + b) = b := by rw [← add_assoc, add_self, zero_add]
theorem add_cancel_right (a b : F) : a + b + b = a := by rw [add_assoc, add_self, add_zero]
theorem add_eq_zero {a b : F} : a + b = 0 ↔ a = b :=
  ⟨fun h => by have := add_cancel_right a b; rw [h, zero_add] at this; exact this.symm, fun h => by rw [h, add_self]⟩
theorem add_left_inj {a b c : F} (h : a + b = a + c) : b = c := by rw [← add_add_cancel a b, h, add_add_cancel]
theorem mul_comm (a b : F) : a * b = b * a := F.ext (by rw [mul_n, mul_n, mulN_comm a.lt b.lt])
theorem mul_assoc (a b c : F) : a * b * c = a * (b * c) := F.ext (by
  rw [mul_n, mul_n, mul_n, mul_n, ← mulN_assoc 8 a.n 0 b.n c.n a.lt (by omega) b.lt, mulN_zero])
theorem mul_add (a b c : F) : a * (b + c) = a * b + a * c := F.ext (by
  rw [mul_n, add_n, add_n, mul_n, mul_n]; exact mulN_add_right 8 0 0 _ _ _)
theorem add_mul (a b c : F) : (a + b) * c = a * c + b * c := by rw [mul_comm, mul_add, mul_comm c, mul_comm c]
theorem mul_one (a : F) : a * 1 = a := F.ext (by rw [mul_n, n_one, mulN_one a.lt])
theorem one_mul (a : F) : 1 * a = a := by rw [mul_comm, mul_one]
theorem mul_zero (a : F) : a * 0 = 0 := F.ext (by rw [mul_n, n_zero, mulN_zero])
theorem zero_mul (a : F) : 0 * a = 0 := by rw [mul_comm, mul_zero]
theorem mul_left_comm (a b c : F) : a * (b * c) = b * (a * c) := by rw [← mul_assoc, mul_comm a b, mul_assoc]
theorem add_left_comm (a b c : F) : a + (b + c) = b + (a + c) := by rw [← add_assoc, add_comm a b, add_assoc]
instance : Std.Associative (α := F) (· + ·) := ⟨add_assoc⟩
instance : Std.Commutative (α := F) (· + ·) := ⟨add_comm⟩
instance : Std.Associative (α := F) (· * ·) := ⟨mul_assoc⟩
instance : Std.Commutative (α := F) (· * ·) := ⟨mul_comm⟩

/-! ### 3. Powers -/
def pw (a : F) : Nat → F
  | 0 => 1
  | k + 1 => pw a k * a
theorem pw_zero (a : F) : pw a 0 = 1 := rfl
theorem pw_succ (a : F) (k : Nat) : pw a (k + 1) = pw a k * a := rfl
theorem pw_one (a : F) : pw a 1 = a := one_mul a
theorem pw_add (a : F) (j k : Nat) : pw a (j + k) = pw a j * pw a k := by
  induction k with
  | zero => rw [Nat.add_zero, pw_zero, mul_one]
  | succ k ih => rw [← Nat.add_assoc, pw_succ, ih, pw_succ, mul_assoc]
theorem pw_mul_base (a b : F) (k : Nat) : pw (a * b) k = pw a k * pw b k := by
  induction k with
  | zero => rw [pw_zero, pw_zero, pw_zero, mul_one]
  | succ k ih => rw [pw_succ, ih, pw_succ, pw_succ]; ac_rfl
theorem one_pw (k : Nat) : pw 1 k = 1 := by
  induction k with
  | zero => rfl
  | succ k ih => rw [pw_succ, ih, mul_one]
theorem pw_pw (a : F) (j k : Nat) : pw (pw a j) k = pw a (j * k) := by
  induction k with
  | zero => rfl
  | succ k ih => rw [pw_succ, ih, Nat.mul_succ, pw_add]
theorem zero_pw (k : Nat) (h : 0 < k) : pw 0 k = 0 := by
  cases k with
  | zero => omega
  | succ k => rw [pw_succ, mul_zero]

theorem pw_255 {a : F} (h : a ≠ 0) : pw a 255 = 1 := by
  have := allLt_at pow_all a.lt
  rw [Bool.or_eq_true] at this
  rcases this with h0 | h1
  · exact absurd (F.ext (Nat.eq_of_beq_eq_true h0)) h
  · refine F.ext ?_
    have e : (255 : Nat) = 1 + 1 * 2 + 1 * 2 * 2 + 1 * 2 * 2 * 2 + 1 * 2 * 2 * 2 * 2 + 1 * 2 * 2 * 2 * 2 * 2 + 1 * 2 * 2 * 2 * 2 * 2 * 2 + 1 * 2 * 2 * 2 * 2 * 2 * 2 * 2 := rfl
    have h2 : ∀ x : F, pw x 2 = x * x := fun x => by rw [pw_succ, pw_one]
    rw [e, pw_add, pw_add, pw_add, pw_add, pw_add, pw_add, pw_add]
    simp only [← pw_pw, pw_one, h2, mul_n]
    exact Nat.eq_of_beq_eq_true h1
theorem pw_mod {a : F} (h : a ≠ 0) (k : Nat) : pw a (k % 255) = pw a k := by
  conv => rhs; rw [← Nat.div_add_mod k 255]
  rw [pw_add, ← pw_pw, pw_255 h, one_pw, one_mul]

/-! ### 4. Inverses -/
def inv (a : F) : F := pw a 254
theorem inv_zero : inv 0 = 0 := zero_pw 254 (by omega)
theorem mul_inv {a : F} (h : a ≠ 0) : a * inv a = 1 := by
  rw [mul_comm]
  exact pw_255 h
theorem inv_mul {a : F} (h : a ≠ 0) : inv a * a = 1 := by rw [mul_comm, mul_inv h]
theorem mul_eq_zero {a b : F} : a * b = 0 ↔ a = 0 ∨ b = 0 := by
  constructor
  · intro h
    by_cases ha : a = 0
    · exact .inl ha
    · refine .inr ?_
      have : inv a * (a * b) = b := by rw [← mul_assoc, inv_mul ha, one_mul]
      rw [← this, h, mul_zero]
  · rintro (h | h)
    · rw [h, zero_mul]
    · rw [h, mul_zero]
theorem mul_cancel_left {a b c : F} (h : a ≠ 0) (e : a * b = a * c) : b = c := by
  have : inv a * (a * b) = inv a * (a * c) := by rw [e]
  rwa [← mul_assoc, ← mul_assoc, inv_mul h, one_mul, one_mul] at this
theorem one_ne_zero : (1 : F) ≠ 0 := by decide
theorem inv_ne_zero {a : F} (h : a ≠ 0) : inv a ≠ 0 := fun e => by
  have := mul_inv h
  rw [e, mul_zero] at this
  exact one_ne_zero this.symm
theorem inv_unique {a b : F} (h : a * b = 1) : b = inv a := by
  have ha : a ≠ 0 := fun e => by rw [e, zero_mul] at h; exact one_ne_zero h.symm
  exact mul_cancel_left ha (h.trans (mul_inv ha).symm)
theorem inv_inv (a : F) : inv (inv a) = a := by
  by_cases h : a = 0
  · rw [h, inv_zero, inv_zero]
  · exact (inv_unique (inv_mul h)).symm
theorem pw_ne_zero {a : F} (h : a ≠ 0) (k : Nat) : pw a k ≠ 0 := by
  induction k with
  | zero => exact one_ne_zero
  | succ k ih =>
    rw [pw_succ]
    intro e
    rcases mul_eq_zero.1 e with h1 | h1
    · exact ih h1
    · exact h h1

/-! ### 5. Powers of x, and logarithms -/
instance : OfNat F 2 := ⟨ofN 2⟩
theorem n_two : (2 : F).n = 2 := rfl
theorem two_ne_zero : (2 : F) ≠ 0 := by decide
theorem tx_mul (a : F) : ofN (txN a.n) = a * 2 := by
  refine F.ext ?_
  rw [ofN_n _ (txN_lt _ a.lt), mul_n, n_two, mulN_comm a.lt (by omega)]
  rw [show (2 : Nat) = txN 1 from rfl, show (0 : Nat) = txN 0 from rfl, mulN_tx 8 0 1 a.n (by omega) (by omega), mulN_comm (by omega) a.lt, mulN_one a.lt]
theorem pw_two_n (k : Nat) : (pw 2 k).n = expN k := by
  induction k with
  | zero => rfl
  | succ k ih => rw [pw_succ, ← tx_mul, ofN_n _ (txN_lt _ (F.lt _)), ih]; rfl
theorem pw_two_ne_one {k : Nat} (h0 : 0 < k) (h : k < 255) : pw 2 k ≠ 1 := fun e => by
  have h1 := allLt_at exp_all (show k - 1 < 254 by omega)
  rw [show k - 1 + 1 = k by omega, ← pw_two_n, e] at h1
  exact absurd h1 (by decide)
theorem pw_two_inj {j k : Nat} (hj : j < 255) (hk : k < 255) (e : pw 2 j = pw 2 k) : j = k := by
  have main : ∀ j k, j ≤ k → k < 255 → pw 2 j = pw 2 k → j = k := by
    intro j k hjk hk e
    rcases Nat.lt_or_ge j k with hlt | hge
    · exfalso
      have e2 : pw 2 j * pw 2 (k - j) = pw 2 j * 1 := by rw [← pw_add, mul_one, show j + (k - j) = k by omega, e]
      exact pw_two_ne_one (by omega) (by omega) (mul_cancel_left (pw_ne_zero two_ne_zero j) e2)
    · omega
  rcases Nat.le_total j k with h | h
  · exact main j k h hk e
  · exact (main k j h hj e.symm).symm
/-- the least n from 0 to 254 for which x^n is a -/
def lgO (a : F) : Option Nat := (List.range 255).find? fun n => decide (pw 2 n = a)
def lg (a : F) : Int := match lgO a with | some n => n | none => -1
theorem lg_at {a : F} {k : Nat} (hk : k < 255) (h : pw 2 k = a) : lg a = k := by
  have : lgO a = some k := by
    unfold lgO
    rw [List.find?_range_eq_some]
    refine ⟨by simpa using h, by simpa using hk, fun j hj => ?_⟩
    simp only [Bool.not_eq_true', decide_eq_false_iff_not]
    intro e
    have := pw_two_inj (by omega) hk (e.trans h.symm)
    omega
  unfold lg
  rw [this]
theorem logN_some (a : F) (k n : Nat) (p : Nat) (hp : p = expN n) (h : (logN a.n k n p).isSome = true) : ∃ j, n ≤ j ∧ j < n + k ∧ pw 2 j = a := by
  induction k generalizing n p with
  | zero => simp [logN] at h
  | succ k ih =>
    unfold logN at h
    by_cases e : Nat.beq p a.n = true
    · refine ⟨n, by omega, by omega, F.ext ?_⟩
      rw [pw_two_n, ← hp]
      exact Nat.eq_of_beq_eq_true e
    · rw [if_neg e] at h
      obtain ⟨j, h1, h2, h3⟩ := ih (n + 1) (txN p) (by rw [hp]; rfl) h
      exact ⟨j, by omega, by omega, h3⟩
theorem lg_some {a : F} (h : a ≠ 0) : ∃ k, k < 255 ∧ pw 2 k = a ∧ lg a = k := by
  have h1 := allLt_at log_all a.lt
  rw [Bool.or_eq_true] at h1
  rcases h1 with h0 | h1
  · exact absurd (F.ext (Nat.eq_of_beq_eq_true h0)) h
  · obtain ⟨j, _, hj, e⟩ := logN_some a 255 0 1 rfl h1
    exact ⟨j, by omega, e, lg_at (by omega) e⟩
theorem lg_none {a : F} (h : ∀ j, j < 255 → pw 2 j ≠ a) : lg a = -1 := by
  have : lgO a = none := by
    unfold lgO
    rw [List.find?_eq_none]
    intro j hj
    have := h j (by simpa using hj)
    simpa using this
  unfold lg
  rw [this]
theorem lg_zero : lg 0 = -1 := lg_none fun j _ e => pw_ne_zero two_ne_zero j e
/-- a to the n-th, n below 0 too -/
def pwZ (a : F) (n : Int) : F := if a = 0 then (if n = 0 then 1 else 0) else pw a (n % 255).toNat

/-! ### 6. The document's product is the field's -/
theorem selN_div (b c i x : Nat) : selN ((b ^^^ c) / 2 ^ i) x = selN (b / 2 ^ i) x ^^^ selN (c / 2 ^ i) x := by rw [Nat.xor_div_two_pow, selN_bit]
theorem gatherN_add (k i a b c : Nat) : gatherN k i a (b ^^^ c) = gatherN k i a b ^^^ gatherN k i a c := by
  induction k generalizing i with
  | zero => simp [gatherN]
  | succ k ih => unfold gatherN; rw [ih, selN_div, xor4]
theorem restN_add (k p q : Nat) : restN k (p ^^^ q) = restN k p ^^^ restN k q := by
  induction k generalizing p q with
  | zero => rfl
  | succ k ih => unfold restN; rw [selN_div, xor4, ih]
theorem gatherN_zero (k i a : Nat) : gatherN k i a 0 = 0 := by
  induction k generalizing i with
  | zero => rfl
  | succ k ih => simp [gatherN, ih, selN]
theorem refN_mul {a b : Nat} (ha : a < 256) (hb : b < 256) : refN a b = mulN 8 0 a b := by
  refine lin_ext (fun b => refN a b) (fun b => mulN 8 0 a b) (fun x y _ _ => ?_) (fun x y _ _ => mulN_add_right 8 0 0 a x y) ?_ ?_ b hb
  · show restN 7 (gatherN 8 0 a (x ^^^ y)) = _
    rw [gatherN_add, restN_add]; rfl
  · show restN 7 (gatherN 8 0 a 0) = mulN 8 0 a 0
    rw [gatherN_zero, mulN_zero]; rfl
  · intro i hi
    exact Nat.eq_of_beq_eq_true (allLt_at (allLt_at ref_all ha) hi)
end Go.Proofs.YtbphbogolffanaaDoor
