/-
  WORDS OF 32 BITS AS POLYNOMIALS, WITHOUT ANY PROGRAM: a step to the right, products, powers, and the sums of rows of bytes. No conditions.
-/
import Derived.Test.YtbgdoemealddpaaDoorBase
namespace Go.Proofs.YtbgdoemealddpaaDoor

/-- A word of 32 bits. -/
def G : Type := BitVec 32
def G.n (x : G) : Nat := BitVec.toNat x
def ofG (k : Nat) : G := BitVec.ofNat 32 k
instance : DecidableEq G := inferInstanceAs (DecidableEq (BitVec 32))
instance : Inhabited G := ⟨ofG 0⟩
instance : OfNat G 0 := ⟨ofG 0⟩
theorem G.lt (x : G) : x.n < 4294967296 := BitVec.isLt x
theorem G.ext {x y : G} (h : x.n = y.n) : x = y := BitVec.eq_of_toNat_eq h
theorem ofG_n (k : Nat) (h : k < 4294967296) : (ofG k).n = k := by
  show (BitVec.ofNat 32 k).toNat = k
  rw [BitVec.toNat_ofNat]
  exact Nat.mod_eq_of_lt h
theorem n_ofG (x : G) : ofG x.n = x := G.ext (ofG_n _ x.lt)
theorem g_zero : (0 : G).n = 0 := rfl
theorem g_eq_zero {x : G} : x.n = 0 ↔ x = 0 := ⟨fun h => G.ext h, fun h => h ▸ rfl⟩

instance : Add G := ⟨fun a b => BitVec.xor a b⟩
theorem gadd_def (a b : G) : a + b = BitVec.xor a b := rfl
theorem gadd_n (a b : G) : (a + b).n = a.n ^^^ b.n := BitVec.toNat_xor (x := a) (y := b)
theorem gadd_comm (a b : G) : a + b = b + a := G.ext (by rw [gadd_n, gadd_n, Nat.xor_comm])
theorem gadd_assoc (a b c : G) : a + b + c = a + (b + c) := G.ext (by rw [gadd_n, gadd_n, gadd_n, gadd_n, Nat.xor_assoc])
theorem gadd_zero (a : G) : a + 0 = a := G.ext (by rw [gadd_n, g_zero, Nat.xor_zero])
theorem gzero_add (a : G) : 0 + a = a := by rw [gadd_comm, gadd_zero]
theorem gadd_self (a : G) : a + a = 0 := G.ext (by rw [gadd_n, Nat.xor_self]; rfl)
theorem gadd_cancel_right (a b : G) : a + b + b = a := by rw [gadd_assoc, gadd_self, gadd_zero]
theorem gadd_add_cancel (a b : G) : a + (a + b) = b := by rw [← gadd_assoc, gadd_self, gzero_add]
theorem gadd_eq_zero {a b : G} : a + b = 0 ↔ a = b :=
  ⟨fun h => by have := gadd_cancel_right a b; rw [h, gzero_add] at this; exact this.symm, fun h => by rw [h, gadd_self]⟩
instance : Std.Associative (α := G) (· + ·) := ⟨gadd_assoc⟩
instance : Std.Commutative (α := G) (· + ·) := ⟨gadd_comm⟩

/-! ### 1. A step -/
def PG : Nat := 3988292384
/-- the word, if the number is odd -/
def selG (b x : Nat) : Nat := if b % 2 = 1 then x else 0
def sN (a : Nat) : Nat := (a / 2) ^^^ selG a PG
theorem selG_lt (b : Nat) {x m : Nat} (h : x < m) : selG b x < m := by unfold selG; split <;> omega
theorem gxor_lt {a b : Nat} (ha : a < 4294967296) (hb : b < 4294967296) : a ^^^ b < 4294967296 := Nat.xor_lt_two_pow (n := 32) ha hb
theorem sN_lt (a : Nat) (h : a < 4294967296) : sN a < 4294967296 := gxor_lt (by omega) (selG_lt _ (by decide))
def s (a : G) : G := ofG (sN a.n)
theorem s_n (a : G) : (s a).n = sN a.n := ofG_n _ (sN_lt _ a.lt)
theorem gxor4 (a b c d : Nat) : (a ^^^ b) ^^^ (c ^^^ d) = (a ^^^ c) ^^^ (b ^^^ d) := by
  rw [Nat.xor_assoc, Nat.xor_assoc, ← Nat.xor_assoc b c d, Nat.xor_comm b c, Nat.xor_assoc c b d]
theorem xor_mod2 (b c : Nat) : (b ^^^ c) % 2 = b % 2 ^^^ c % 2 := Nat.xor_mod_two_pow (n := 1)
theorem selG_bit (b c x : Nat) : selG (b ^^^ c) x = selG b x ^^^ selG c x := by
  unfold selG
  rw [xor_mod2]
  rcases Nat.mod_two_eq_zero_or_one b with hb | hb <;> rcases Nat.mod_two_eq_zero_or_one c with hc | hc <;> simp [hb, hc]
theorem selG_add (b x y : Nat) : selG b (x ^^^ y) = selG b x ^^^ selG b y := by unfold selG; split <;> simp
theorem sN_add (a b : Nat) : sN (a ^^^ b) = sN a ^^^ sN b := by
  unfold sN
  rw [selG_bit, Nat.xor_div_two, gxor4]
theorem s_add (a b : G) : s (a + b) = s a + s b := G.ext (by rw [s_n, gadd_n, gadd_n, s_n, s_n, sN_add])
theorem s_zero : s 0 = 0 := rfl
theorem s_inj {a : G} (h : s a = 0) : a = 0 := by
  have h1 : sN a.n = 0 := by rw [← s_n, h]; rfl
  unfold sN selG at h1
  have ha := a.lt
  rcases Nat.mod_two_eq_zero_or_one a.n with h2 | h2
  · rw [if_neg (by omega), Nat.xor_zero] at h1
    exact g_eq_zero.1 (by omega)
  · rw [if_pos h2] at h1
    have h3 : a.n / 2 = PG := by
      have := congrArg (· ^^^ PG) h1
      simpa [Nat.xor_assoc] using this
    unfold PG at h3
    omega
/-- so many steps -/
def st : Nat → G → G
  | 0, a => a
  | k + 1, a => st k (s a)
theorem st_add (k : Nat) (a b : G) : st k (a + b) = st k a + st k b := by
  induction k generalizing a b with
  | zero => rfl
  | succ k ih => show st k (s (a + b)) = _; rw [s_add, ih]; rfl
theorem st_zero (k : Nat) : st k 0 = 0 := by
  induction k with
  | zero => rfl
  | succ k ih => show st k (s 0) = 0; rw [s_zero, ih]
theorem st_st (j k : Nat) (a : G) : st j (st k a) = st (k + j) a := by
  induction k generalizing a with
  | zero => rw [Nat.zero_add]; rfl
  | succ k ih => rw [Nat.add_right_comm]; exact ih (s a)
theorem st_inj (k : Nat) {a : G} (h : st k a = 0) : a = 0 := by
  induction k generalizing a with
  | zero => exact h
  | succ k ih => exact s_inj (ih h)
theorem st_s (k : Nat) (a : G) : st k (s a) = s (st k a) := by
  have h1 := st_st k 1 a
  have h2 := st_st 1 k a
  rw [Nat.add_comm] at h1
  exact h1.trans h2.symm

/-! ### 2. Maps that go through sums -/
theorem g_top {b n : Nat} (h1 : 2 ^ n ≤ b) (h2 : b < 2 ^ (n + 1)) : b ^^^ 2 ^ n < 2 ^ n := by
  have hb : b = (b - 2 ^ n) + 2 ^ n := by omega
  have h3 : b - 2 ^ n < 2 ^ n := by rw [Nat.pow_succ] at h2; omega
  refine Nat.lt_pow_two_of_testBit _ fun i hi => ?_
  rw [Nat.testBit_xor, Nat.testBit_two_pow]
  rcases Nat.lt_or_ge n i with hlt | hge
  · have h4 : b.testBit i = false := Nat.testBit_lt_two_pow (Nat.lt_of_lt_of_le h2 (Nat.pow_le_pow_right (by omega) hlt))
    rw [h4]
    simp
    omega
  · obtain rfl : i = n := by omega
    have h4 : b.testBit i = true := by
      rw [hb, Nat.add_comm, Nat.testBit_two_pow_add_eq, Nat.testBit_lt_two_pow h3]
      rfl
    rw [h4]
    simp
theorem gext_lin (f g : G → G) (hf : ∀ x y, f (x + y) = f x + f y) (hg : ∀ x y, g (x + y) = g x + g y) (h : ∀ i, i < 32 → f (ofG (2 ^ i)) = g (ofG (2 ^ i))) (b : G) : f b = g b := by
  have zf : f 0 = 0 := by have := hf 0 0; rw [gadd_self, gadd_self] at this; exact this
  have zg : g 0 = 0 := by have := hg 0 0; rw [gadd_self, gadd_self] at this; exact this
  have key : ∀ n, n ≤ 32 → ∀ b : G, b.n < 2 ^ n → f b = g b := by
    intro n
    induction n with
    | zero =>
      intro _ b hb
      have : b = 0 := g_eq_zero.1 (by simpa using hb)
      subst this; rw [zf, zg]
    | succ n ih =>
      intro hn b hb
      rcases Nat.lt_or_ge b.n (2 ^ n) with hl | hl
      · exact ih (by omega) b hl
      · have h32 : 2 ^ n < 2 ^ 32 := Nat.pow_lt_pow_right (by omega) (by omega)
        have hp : (ofG (2 ^ n)).n = 2 ^ n := ofG_n _ (by simpa using h32)
        have e : b = (b + ofG (2 ^ n)) + ofG (2 ^ n) := (gadd_cancel_right _ _).symm
        have h1 : (b + ofG (2 ^ n)).n < 2 ^ n := by rw [gadd_n, hp]; exact g_top hl hb
        rw [e, hf, hg, ih (by omega) _ h1, h n (by omega)]
  exact key 32 (Nat.le_refl _) b b.lt

/-! ### 3. Products -/
def tmN : Nat → Nat → Nat → Nat → Nat
  | 0, p, _, _ => p
  | k + 1, p, a, b => tmN k (p ^^^ selG (b / 2147483648) a) (sN a) (b * 2 % 4294967296)
theorem tmN_lt (k p a b : Nat) (hp : p < 4294967296) (ha : a < 4294967296) : tmN k p a b < 4294967296 := by
  induction k generalizing p a b with
  | zero => exact hp
  | succ k ih => exact ih _ _ _ (gxor_lt hp (selG_lt _ ha)) (sN_lt a ha)
def tm (a b : G) : G := ofG (tmN 32 0 a.n b.n)
theorem tm_n (a b : G) : (tm a b).n = tmN 32 0 a.n b.n := ofG_n _ (tmN_lt 32 0 _ _ (by omega) a.lt)
theorem tmN_add_left (k p q a b c : Nat) : tmN k (p ^^^ q) (a ^^^ b) c = tmN k p a c ^^^ tmN k q b c := by
  induction k generalizing p q a b c with
  | zero => rfl
  | succ k ih =>
    show tmN k ((p ^^^ q) ^^^ selG (c / 2147483648) (a ^^^ b)) (sN (a ^^^ b)) (c * 2 % 4294967296) = _
    rw [selG_add, gxor4, sN_add]
    exact ih _ _ _ _ _
theorem dbl_xor (b c : Nat) : (b ^^^ c) * 2 % 4294967296 = (b * 2 % 4294967296) ^^^ (c * 2 % 4294967296) := by
  have h1 : (b ^^^ c) * 2 = (b * 2) ^^^ (c * 2) := by
    rw [← Nat.pow_one 2, ← Nat.shiftLeft_eq, ← Nat.shiftLeft_eq, ← Nat.shiftLeft_eq, Nat.shiftLeft_xor_distrib]
  rw [h1]
  exact Nat.xor_mod_two_pow (n := 32)
theorem top_xor (b c : Nat) : (b ^^^ c) / 2147483648 = (b / 2147483648) ^^^ (c / 2147483648) := Nat.xor_div_two_pow (n := 31)
theorem tmN_add_right (k p q a b c : Nat) : tmN k (p ^^^ q) a (b ^^^ c) = tmN k p a b ^^^ tmN k q a c := by
  induction k generalizing p q a b c with
  | zero => rfl
  | succ k ih =>
    show tmN k ((p ^^^ q) ^^^ selG ((b ^^^ c) / 2147483648) a) (sN a) ((b ^^^ c) * 2 % 4294967296) = _
    rw [top_xor, selG_bit, gxor4, dbl_xor]
    exact ih _ _ _ _ _
theorem selG_s (b x : Nat) : sN (selG b x) = selG b (sN x) := by unfold selG; split <;> rfl
theorem tmN_s (k p a b : Nat) : tmN k (sN p) (sN a) b = sN (tmN k p a b) := by
  induction k generalizing p a b with
  | zero => rfl
  | succ k ih =>
    show tmN k (sN p ^^^ selG (b / 2147483648) (sN a)) (sN (sN a)) (b * 2 % 4294967296) = sN (tmN k (p ^^^ selG (b / 2147483648) a) (sN a) (b * 2 % 4294967296))
    rw [← ih, sN_add, selG_s]
theorem tm_add_left (a b c : G) : tm (a + b) c = tm a c + tm b c := G.ext (by
  rw [tm_n, gadd_n, gadd_n, tm_n, tm_n]; exact tmN_add_left 32 0 0 _ _ _)
theorem tm_add_right (a b c : G) : tm a (b + c) = tm a b + tm a c := G.ext (by
  rw [tm_n, gadd_n, gadd_n, tm_n, tm_n]; exact tmN_add_right 32 0 0 _ _ _)
theorem tm_s (a b : G) : tm (s a) b = s (tm a b) := G.ext (by
  rw [tm_n, s_n, s_n, tm_n]; exact tmN_s 32 0 _ _)
def one32 : Nat := 2147483648
def oneG : G := ofG one32
theorem tm_comm_all : allLt 32 (fun i => allLt 32 fun j => Nat.beq (tmN 32 0 (2 ^ i) (2 ^ j)) (tmN 32 0 (2 ^ j) (2 ^ i))) = true := by decide +kernel
theorem tm_one_all : allLt 32 (fun i => Nat.beq (tmN 32 0 (2 ^ i) one32) (2 ^ i)) = true := by decide +kernel
theorem ofG_pow {i : Nat} (h : i < 32) : (ofG (2 ^ i)).n = 2 ^ i := ofG_n _ (by
  have : 2 ^ i < 2 ^ 32 := Nat.pow_lt_pow_right (by omega) h
  simpa using this)
theorem tm_comm (a b : G) : tm a b = tm b a := by
  refine gext_lin (fun a => tm a b) (fun a => tm b a) (fun x y => tm_add_left x y b) (fun x y => tm_add_right b x y) (fun i hi => ?_) a
  refine gext_lin (fun b => tm (ofG (2 ^ i)) b) (fun b => tm b (ofG (2 ^ i))) (fun x y => tm_add_right _ x y) (fun x y => tm_add_left x y _) (fun j hj => ?_) b
  refine G.ext ?_
  rw [tm_n, tm_n, ofG_pow hi, ofG_pow hj]
  exact Nat.eq_of_beq_eq_true (allLt_at (allLt_at tm_comm_all hi) hj)
theorem tm_one (a : G) : tm a oneG = a := by
  refine gext_lin (fun a => tm a oneG) (fun a => a) (fun x y => tm_add_left x y _) (fun _ _ => rfl) (fun i hi => ?_) a
  refine G.ext ?_
  rw [tm_n, ofG_pow hi]
  exact Nat.eq_of_beq_eq_true (allLt_at tm_one_all hi)
theorem one_tm (a : G) : tm oneG a = a := by rw [tm_comm, tm_one]
theorem tm_zero (a : G) : tm a 0 = 0 := by have := tm_add_right a 0 0; rw [gadd_self, gadd_self] at this; exact this
theorem tm_assoc (a b c : G) : tm (tm a b) c = tm a (tm b c) := by
  -- the words that are one, moved, tell all
  have hs : ∀ k x y, tm (st k x) y = st k (tm x y) := by
    intro k
    induction k with
    | zero => intro x y; rfl
    | succ k ih => intro x y; show tm (st k (s x)) y = st k (s (tm x y)); rw [ih, tm_s]
  have hb : ∀ i, i < 32 → ofG (2 ^ i) = st (31 - i) oneG := by decide +kernel
  refine gext_lin (fun a => tm (tm a b) c) (fun a => tm a (tm b c)) (fun x y => ?_) (fun x y => tm_add_left x y _) (fun i hi => ?_) a
  · show tm (tm (x + y) b) c = _; rw [tm_add_left, tm_add_left]
  · show tm (tm (ofG (2 ^ i)) b) c = tm (ofG (2 ^ i)) (tm b c)
    rw [hb i hi, hs, hs, hs, one_tm, one_tm]
instance : Std.Associative (α := G) tm := ⟨tm_assoc⟩
instance : Std.Commutative (α := G) tm := ⟨tm_comm⟩
/-- powers -/
def gp (a : G) : Nat → G
  | 0 => oneG
  | k + 1 => tm (gp a k) a
theorem gp_one (a : G) : gp a 1 = a := one_tm a
theorem gp_add (a : G) (j k : Nat) : gp a (j + k) = tm (gp a j) (gp a k) := by
  induction k with
  | zero => rw [Nat.add_zero]; exact (tm_one _).symm
  | succ k ih => rw [← Nat.add_assoc]; show tm (gp a (j + k)) a = tm (gp a j) (tm (gp a k) a); rw [ih, tm_assoc]
theorem gp_sq (a : G) (k : Nat) : gp (tm a a) k = gp a (2 * k) := by
  induction k with
  | zero => rfl
  | succ k ih =>
    show tm (gp (tm a a) k) (tm a a) = gp a (2 * k + 1 + 1)
    show _ = tm (tm (gp a (2 * k)) a) a
    rw [ih, tm_assoc]
def x8 : G := ofG 8388608
theorem st8 (a : G) : st 8 a = tm a x8 := by
  have h : x8 = st 8 oneG := by decide +kernel
  have hs : ∀ k x y, tm (st k x) y = st k (tm x y) := by
    intro k
    induction k with
    | zero => intro x y; rfl
    | succ k ih => intro x y; show tm (st k (s x)) y = st k (s (tm x y)); rw [ih, tm_s]
  rw [tm_comm, h, hs, one_tm]
theorem st_gp (n : Nat) (a : G) : st (8 * n) a = tm a (gp x8 n) := by
  induction n generalizing a with
  | zero => exact (tm_one a).symm
  | succ n ih =>
    rw [Nat.mul_succ, Nat.add_comm, ← st_st, st8, ih]
    show tm (tm a x8) (gp x8 n) = tm a (tm (gp x8 n) x8)
    rw [tm_assoc, tm_comm x8]

/-! ### 4. Sums of rows -/
def wb (x : F) : G := ofG x.n
theorem wb_n (x : F) : (wb x).n = x.n := ofG_n _ (by have := x.lt; omega)
def ones : G := ofG 4294967295
def nt (x : G) : G := x + ones
theorem nt_nt (x : G) : nt (nt x) = x := gadd_cancel_right _ _
def U : G → List F → G
  | w, [] => w
  | w, x :: l => U (st 8 (w + wb x)) l
theorem U_append (w : G) (l m : List F) : U w (l ++ m) = U (U w l) m := by
  induction l generalizing w with
  | nil => rfl
  | cons x l ih => exact ih _
theorem U_snoc (w : G) (l : List F) (x : F) : U w (l ++ [x]) = st 8 (U w l + wb x) := U_append w l [x]
theorem U_add (a b : G) (l : List F) : U (a + b) l = st (8 * l.length) a + U b l := by
  induction l generalizing a b with
  | nil => rfl
  | cons x l ih =>
    show U (st 8 (a + b + wb x)) l = st (8 * (l.length + 1)) a + U (st 8 (b + wb x)) l
    rw [gadd_assoc, st_add, ih, st_st, Nat.mul_succ, Nat.add_comm 8]
theorem U_zero (a : G) (l : List F) : U a l = st (8 * l.length) a + U 0 l := by
  have := U_add a 0 l
  rwa [gadd_zero] at this
def upd (sm : G) (l : List F) : G := nt (U (nt sm) l)
def sum32 (l : List F) : G := upd 0 l
theorem upd_append (x : G) (l m : List F) : upd x (l ++ m) = upd (upd x l) m := by unfold upd; rw [U_append, nt_nt]
/-- noughts behind -/
def zer (x : G) (n : Nat) : G := nt (st (8 * n) (nt x))
theorem U_zeros (w : G) (n : Nat) : U w (List.replicate n 0) = st (8 * n) w := by
  induction n generalizing w with
  | zero => rfl
  | succ n ih =>
    show U (st 8 (w + wb 0)) (List.replicate n 0) = _
    rw [ih, show wb 0 = (0 : G) from rfl, gadd_zero, st_st, Nat.mul_succ, Nat.add_comm]
theorem upd_zeros (x : G) (n : Nat) : upd x (List.replicate n 0) = zer x n := by unfold upd zer; rw [U_zeros]
def jn (a b : G) (n : Nat) : G := zer a n + zer 0 n + b
theorem jn_upd (x : G) (l : List F) : jn x (sum32 l) l.length = upd x l := by
  unfold jn zer sum32 upd nt
  rw [U_zero (x + ones) l, U_zero (0 + ones) l]
  have h := gadd_self (st (8 * l.length) (0 + ones))
  have h2 := gadd_self ones
  rw [show st (8 * l.length) (x + ones) + ones + (st (8 * l.length) (0 + ones) + ones) + (st (8 * l.length) (0 + ones) + U 0 l + ones) = (st (8 * l.length) (x + ones) + U 0 l + ones) + (st (8 * l.length) (0 + ones) + st (8 * l.length) (0 + ones)) + (ones + ones) by ac_rfl, h, h2, gadd_zero, gadd_zero]
theorem jn_sum (l m : List F) : jn (sum32 l) (sum32 m) m.length = sum32 (l ++ m) := by
  rw [jn_upd]; unfold sum32; rw [upd_append]

/-! ### 5. Sums add up -/
def xrow : List F → List F → List F
  | x :: l, y :: m => (x + y) :: xrow l m
  | _, _ => []
theorem wb_add (x y : F) : wb (x + y) = wb x + wb y := G.ext (by rw [gadd_n, wb_n, wb_n, wb_n, add_n])
theorem U_xrow (a b : G) (l m : List F) (h : m.length = l.length) : U (a + b) (xrow l m) = U a l + U b m := by
  induction l generalizing a b m with
  | nil => cases m with
    | nil => rfl
    | cons y m => simp at h
  | cons x l ih =>
    cases m with
    | nil => simp at h
    | cons y m =>
      show U (st 8 (a + b + wb (x + y))) (xrow l m) = U (st 8 (a + wb x)) l + U (st 8 (b + wb y)) m
      rw [wb_add, show a + b + (wb x + wb y) = (a + wb x) + (b + wb y) by ac_rfl, st_add]
      exact ih _ _ _ (by simpa using h)
theorem sum_adds (l m : List F) (h : m.length = l.length) : sum32 (xrow l m) = sum32 l + sum32 m + sum32 (List.replicate l.length 0) := by
  unfold sum32
  rw [upd_zeros]
  unfold upd zer
  rw [show nt 0 = nt 0 + 0 from (gadd_zero _).symm, U_xrow (nt 0) 0 l m h, gadd_zero, U_zero (nt 0) m, h]
  unfold nt
  have h1 := gadd_self (st (8 * l.length) (0 + ones))
  have h2 := gadd_self ones
  rw [show U (0 + ones) l + ones + (st (8 * l.length) (0 + ones) + U 0 m + ones) + (st (8 * l.length) (0 + ones) + ones) = U (0 + ones) l + U 0 m + ones + (st (8 * l.length) (0 + ones) + st (8 * l.length) (0 + ones)) + (ones + ones) by ac_rfl, h1, h2, gadd_zero, gadd_zero]
/-- the lowest byte first -/
def le4 (x : G) : List F := [ofN (x.n % 256), ofN (x.n / 256 % 256), ofN (x.n / 65536 % 256), ofN (x.n / 16777216 % 256)]
end Go.Proofs.YtbgdoemealddpaaDoor
