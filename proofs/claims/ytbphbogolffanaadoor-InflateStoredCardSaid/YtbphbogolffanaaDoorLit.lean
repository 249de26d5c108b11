/-
  LAYER 7, WITHOUT ANY PROGRAM: a number's bytes, the lowest one first, and back. No conditions.
-/
import Derived.Test.YtbphbogolffanaaDoorRow
import Derived.Test.YtbphbogolffanaaDoorPl
namespace Go.Proofs.YtbphbogolffanaaDoor
set_option linter.unusedVariables false

/-- a number's lowest bytes -/
def putL (v : Nat) : Nat → List F
  | 0 => []
  | k + 1 => putL v k ++ [ofN (v / 256 ^ k % 256)]
theorem putL_length (v k : Nat) : (putL v k).length = k := by
  induction k with
  | zero => rfl
  | succ k ih => simp [putL, ih]
theorem gt_putL (v k i : Nat) (h : i < k) : gt (putL v k) i = ofN (v / 256 ^ i % 256) := by
  induction k with
  | zero => omega
  | succ k ih =>
    unfold putL
    rw [gt_append, putL_length]
    by_cases e : i < k
    · rw [if_pos e, ih e]
    · rw [if_neg e]
      obtain rfl : i = k := by omega
      simp [gt]
/-- the number of bytes -/
def getL : List F → Nat
  | [] => 0
  | x :: l => x.n + 256 * getL l
theorem getL_append (l m : List F) : getL (l ++ m) = getL l + 256 ^ l.length * getL m := by
  induction l with
  | nil => simp [getL]
  | cons x l ih =>
    show x.n + 256 * getL (l ++ m) = x.n + 256 * getL l + 256 ^ (l.length + 1) * getL m
    rw [ih, Nat.pow_succ, Nat.mul_add, Nat.mul_comm (256 ^ l.length) 256, Nat.mul_assoc]
    omega
theorem getL_lt (l : List F) : getL l < 256 ^ l.length := by
  induction l with
  | nil => decide
  | cons x l ih =>
    show x.n + 256 * getL l < 256 ^ (l.length + 1)
    have := x.lt
    rw [Nat.pow_succ]
    omega
theorem getL_one (x : F) : getL [x] = x.n := by simp [getL]
theorem getL_snoc (l : List F) (x : F) : getL (l ++ [x]) = getL l + 256 ^ l.length * x.n := by rw [getL_append, getL_one]
theorem getL_putL (v k : Nat) : getL (putL v k) = v % 256 ^ k := by
  induction k with
  | zero => simp [putL, getL, Nat.mod_one]
  | succ k ih =>
    unfold putL
    rw [getL_snoc, ih, putL_length, ofN_n _ (Nat.mod_lt _ (by decide)), Nat.pow_succ, Nat.mod_mul]
theorem putL_getL (l : List F) : putL (getL l) l.length = l := by
  refine ext_gt (putL_length _ _) fun i hi => ?_
  rw [putL_length] at hi
  rw [gt_putL _ _ _ hi]
  have e : l = l.take i ++ ([gt l i] ++ l.drop (i + 1)) := by
    rw [gt_lt hi]
    conv => lhs; rw [← List.take_append_drop i l, List.drop_eq_getElem_cons hi]
    rfl
  have hl : (l.take i).length = i := by simp; omega
  have h1 : getL l = getL (l.take i) + 256 ^ i * ((gt l i).n + 256 * getL (l.drop (i + 1))) := by
    conv => lhs; rw [e]
    rw [getL_append, hl]
    rfl
  have h2 := getL_lt (l.take i)
  rw [hl] at h2
  refine F.ext ?_
  have hx := (gt l i).lt
  rw [h1, Nat.add_mul_div_left _ _ (Nat.pow_pos (by decide)), Nat.div_eq_of_lt h2, ofN_n _ (Nat.mod_lt _ (by decide))]
  omega
/-- a size within its bounds -/
def heldN (s : Int) (m : Nat) : Nat := (min (max s 0) (m : Int)).toNat
theorem heldN_le (s : Int) (m : Nat) : heldN s m ≤ m := by unfold heldN; omega
theorem pow256 (k : Nat) : 256 ^ k = 2 ^ (8 * k) := by rw [Nat.pow_mul]
/-- the next byte of a number, a place up -/
theorem or_byte (a x k : Nat) (ha : a < 256 ^ k) : a ||| x * 2 ^ (8 * k) = a + 256 ^ k * x := by
  rw [pow256] at *
  rw [Nat.mul_comm x, Nat.or_comm, ← Nat.two_pow_add_eq_or_of_lt ha x, Nat.add_comm]
theorem getL_take_succ (l : List F) (k : Nat) (h : k < l.length) : getL (l.take (k + 1)) = getL (l.take k) + 256 ^ k * (gt l k).n := by
  rw [gt_lt h, List.take_succ_eq_append_getElem h, getL_snoc]
  simp [show min k l.length = k by omega]
theorem putL_succ (v k : Nat) : putL v (k + 1) = putL v k ++ [ofN (v / 256 ^ k % 256)] := rfl
end Go.Proofs.YtbphbogolffanaaDoor
