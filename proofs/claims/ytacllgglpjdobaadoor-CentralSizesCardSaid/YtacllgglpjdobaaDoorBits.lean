/-
  LAYER 8, WITHOUT ANY PROGRAM: rows of bits, the bytes that hold them, and numbers of bits. No conditions.
  LAYER 7, WITHOUT ANY PROGRAM: a number's bytes, the lowest one first, and back. No conditions.
  THE CONTRACTS OF bits' WRITER. The writer is a block of its own; what it holds are the bits that were put.
  THE CONTRACTS OF bits' WRITER, as it is used: Put, Code, Bytes.
  THE CONTRACTS OF bits' READER.
  THE CONTRACTS OF PACKAGE little's NUMBERS (Put, Get, Fits) AND OF THE DOCUMENT's OWN. No conditions but that numbers are such.
-/
import Derived.Test.YtacllgglpjdobaaDoorBase
import Derived.StillTailTactics
import Derived.RegionTactic
import Derived.Deep.RegionLaw
namespace Go.Proofs.YtacllgglpjdobaaDoor
section
/- Bit -/
set_option linter.unusedVariables false

/-- a number of bits, the lowest one first -/
def bsN (f : Nat → Bool) : Nat → Nat
  | 0 => 0
  | m + 1 => bsN f m + (if f m then 2 ^ m else 0)
theorem bsN_succ (f : Nat → Bool) (m : Nat) : bsN f (m + 1) = bsN f m + (if f m then 2 ^ m else 0) := rfl
theorem bsN_lt (f : Nat → Bool) (m : Nat) : bsN f m < 2 ^ m := by
  induction m with
  | zero => exact Nat.one_pos
  | succ m ih => rw [bsN_succ]; rw [Nat.pow_succ]; split <;> omega
theorem bsN_congr {f g : Nat → Bool} {m : Nat} (h : ∀ i, i < m → f i = g i) : bsN f m = bsN g m := by
  induction m with
  | zero => rfl
  | succ m ih =>
    rw [bsN_succ, bsN_succ, ih fun i hi => h i (by omega), h m (by omega)]
theorem bsN_part {f : Nat → Bool} {r m : Nat} (hr : r ≤ m) (h : ∀ i, r ≤ i → i < m → f i = false) : bsN f m = bsN f r := by
  induction m with
  | zero => obtain rfl : r = 0 := by omega
            rfl
  | succ m ih =>
    rcases (show r ≤ m ∨ r = m + 1 by omega) with h1 | rfl
    · rw [bsN_succ, ih h1 fun i hi hm => h i hi (by omega), h m h1 (by omega)]
      simp
    · rfl
theorem bsN_testBit (v m : Nat) : bsN (fun i => v.testBit i) m = v % 2 ^ m := by
  induction m with
  | zero => simp [bsN, Nat.mod_one]
  | succ m ih =>
    rw [bsN_succ, ih, Nat.mod_pow_succ, Nat.testBit_eq_decide_div_mod_eq]
    rcases Nat.mod_two_eq_zero_or_one (v / 2 ^ m) with h | h <;> simp [h]
theorem testBit_bsN (f : Nat → Bool) (m i : Nat) : (bsN f m).testBit i = (decide (i < m) && f i) := by
  induction m with
  | zero => simp [bsN]
  | succ m ih =>
    have h := bsN_lt f m
    rw [bsN_succ]
    by_cases hf : f m = true
    · rw [if_pos hf, Nat.add_comm]
      rcases Nat.lt_trichotomy i m with h1 | rfl | h1
      · rw [Nat.testBit_two_pow_add_gt h1, ih]
        simp [h1, show i < m + 1 by omega]
      · rw [Nat.testBit_two_pow_add_eq, ih]
        simp [hf]
      · have e1 : (2 ^ m + bsN f m).testBit i = false := Nat.testBit_lt_two_pow (Nat.lt_of_lt_of_le (show 2 ^ m + bsN f m < 2 ^ (m + 1) by rw [Nat.pow_succ]; omega) (Nat.pow_le_pow_right (by decide) h1))
        rw [e1]
        simp [show ¬ i < m + 1 by omega]
    · rw [if_neg hf, Nat.add_zero, ih]
      rcases Nat.lt_trichotomy i m with h1 | rfl | h1
      · simp [h1, show i < m + 1 by omega]
      · simp [hf]
      · simp [show ¬ i < m by omega, show ¬ i < m + 1 by omega]

/-- the bit at a place, none behind the end -/
def gbit (X : List Bool) (i : Nat) : Bool := X.getD i false
theorem gbit_ge {X : List Bool} {i : Nat} (h : X.length ≤ i) : gbit X i = false := by simp [gbit, h]
theorem gbit_append (X Y : List Bool) (i : Nat) : gbit (X ++ Y) i = if i < X.length then gbit X i else gbit Y (i - X.length) := by
  unfold gbit
  by_cases h : i < X.length <;> simp [List.getD, List.getElem?_append, h]
theorem gbit_ext {X Y : List Bool} (hl : X.length = Y.length) (h : ∀ i, i < X.length → gbit X i = gbit Y i) : X = Y := by
  refine List.ext_getElem hl fun i h1 h2 => ?_
  have := h i h1
  simpa [gbit, h1, h2] using this
/-- the byte at a place, of bits -/
def byteN (X : List Bool) (j : Nat) : Nat := bsN (fun k => gbit X (8 * j + k)) 8
theorem byteN_lt (X : List Bool) (j : Nat) : byteN X j < 256 := bsN_lt _ 8
/-- the first m bytes of bits; all of them -/
def packN (X : List Bool) (m : Nat) : List F := mkF (fun j => ofN (byteN X j)) m
def pack (X : List Bool) : List F := packN X ((X.length + 7) / 8)
theorem packN_length (X : List Bool) (m : Nat) : (packN X m).length = m := mkF_length _ _
theorem pack_length (X : List Bool) : (pack X).length = (X.length + 7) / 8 := mkF_length _ _
theorem gt_packN (X : List Bool) (m j : Nat) : gt (packN X m) j = if j < m then ofN (byteN X j) else 0 := gt_mkF _ _ _
theorem byteN_ge {X : List Bool} {j : Nat} (h : X.length ≤ 8 * j) : byteN X j = 0 := by
  unfold byteN
  rw [bsN_part (r := 0) (by omega) fun i _ _ => gbit_ge (by omega)]
  rfl
theorem packN_succ_of {X : List Bool} {m : Nat} (h : X.length ≤ 8 * m) : packN X (m + 1) = packN X m ++ [0] := by
  show mkF _ m ++ [ofN (byteN X m)] = _
  rw [byteN_ge h]
  rfl
theorem byteN_last (X : List Bool) : byteN X (X.length / 8) < 2 ^ (X.length % 8) := by
  unfold byteN
  rw [bsN_part (r := X.length % 8) (by omega) fun i hi _ => gbit_ge (by omega)]
  exact bsN_lt _ _
theorem byteN_snoc (X : List Bool) (b : Bool) : byteN (X ++ [b]) (X.length / 8) = byteN X (X.length / 8) + (if b then 2 ^ (X.length % 8) else 0) := by
  have h1 : byteN (X ++ [b]) (X.length / 8) = bsN (fun k => gbit (X ++ [b]) (8 * (X.length / 8) + k)) (X.length % 8 + 1) :=
    bsN_part (by omega) fun i hi _ => gbit_ge (by simp; omega)
  have h2 : byteN X (X.length / 8) = bsN (fun k => gbit X (8 * (X.length / 8) + k)) (X.length % 8) :=
    bsN_part (by omega) fun i hi _ => gbit_ge (by omega)
  rw [h1, h2, bsN_succ]
  congr 1
  · exact bsN_congr fun i hi => by rw [gbit_append, if_pos (by omega)]
  · have e : gbit (X ++ [b]) (8 * (X.length / 8) + X.length % 8) = b := by
      rw [gbit_append, if_neg (by omega), show 8 * (X.length / 8) + X.length % 8 - X.length = 0 by omega]
      rfl
    rw [e]
/-- one bit more -/
theorem packN_snoc (X : List Bool) (b : Bool) : packN (X ++ [b]) (X.length / 8 + 1) = (packN X (X.length / 8 + 1)).set (X.length / 8) (ofN (byteN X (X.length / 8) + (if b then 2 ^ (X.length % 8) else 0))) := by
  refine ext_gt (by simp [packN_length]) fun j hj => ?_
  rw [packN_length] at hj
  rw [gt_set _ _ _ _ (by rw [packN_length]; omega), gt_packN, if_pos hj]
  by_cases e : j = X.length / 8
  · rw [if_pos e, e, byteN_snoc]
  · rw [if_neg e, gt_packN, if_pos hj]
    congr 1
    exact bsN_congr fun i hi => by rw [gbit_append, if_pos (by omega)]
theorem pack_snoc (X : List Bool) (b : Bool) : pack (X ++ [b]) = packN (X ++ [b]) (X.length / 8 + 1) := by
  unfold pack
  rw [show ((X ++ [b]).length + 7) / 8 = X.length / 8 + 1 by simp; omega]
/-- a number's lowest bits, the lowest one first; the highest one first -/
def putB (v n : Nat) : List Bool := (List.range n).map fun i => v.testBit i
def codeB (v n : Nat) : List Bool := (List.range n).map fun i => v.testBit (n - 1 - i)
theorem putB_length (v n : Nat) : (putB v n).length = n := by simp [putB]
theorem codeB_length (v n : Nat) : (codeB v n).length = n := by simp [codeB]
theorem gbit_putB (v n i : Nat) : gbit (putB v n) i = (decide (i < n) && v.testBit i) := by
  unfold gbit putB
  by_cases h : i < n <;> simp [List.getD, h]
theorem gbit_codeB (v n i : Nat) : gbit (codeB v n) i = (decide (i < n) && v.testBit (n - 1 - i)) := by
  unfold gbit codeB
  by_cases h : i < n <;> simp [List.getD, h]
theorem range_map_succ {α : Type} (f : Nat → α) (k : Nat) : (List.range (k + 1)).map f = (List.range k).map f ++ [f k] := by simp [List.range_succ]
/-- with noughts up to a byte's end -/
def alB (X : List Bool) : List Bool := X ++ List.replicate (8 * ((X.length + 7) / 8) - X.length) false
theorem alB_length (X : List Bool) : (alB X).length = 8 * ((X.length + 7) / 8) := by simp [alB]; omega
theorem gbit_alB (X : List Bool) (i : Nat) : gbit (alB X) i = gbit X i := by
  unfold alB
  rw [gbit_append]
  by_cases h : i < X.length
  · rw [if_pos h]
  · rw [if_neg h, gbit_ge (X := X) (by omega)]
    unfold gbit
    by_cases h2 : i - X.length < 8 * ((X.length + 7) / 8) - X.length <;> simp [List.getD, h2]
theorem byteN_alB (X : List Bool) (j : Nat) : byteN (alB X) j = byteN X j := bsN_congr fun k _ => gbit_alB X _
theorem pack_alB (X : List Bool) : pack (alB X) = pack X := by
  unfold pack packN
  rw [alB_length, show (8 * ((X.length + 7) / 8) + 7) / 8 = (X.length + 7) / 8 by omega]
  congr 1
  funext j
  rw [byteN_alB]
/-- a row's bit at a place -/
def rb (l : List F) (i : Nat) : Bool := (gt l (i / 8)).n.testBit (i % 8)
/-- all bits of bytes -/
def bitsOf (l : List F) : List Bool := (List.range (8 * l.length)).map (rb l)
theorem bitsOf_length (l : List F) : (bitsOf l).length = 8 * l.length := by simp [bitsOf]
theorem gbit_bitsOf (l : List F) (i : Nat) : gbit (bitsOf l) i = rb l i := by
  unfold gbit bitsOf
  by_cases h : i < 8 * l.length
  · simp [List.getD, h]
  · have : gt l (i / 8) = 0 := gt_ge (by omega)
    simp [List.getD, h, rb, this, n_zero]
theorem rb_pack (X : List Bool) (i : Nat) : rb (pack X) i = gbit X i := by
  unfold rb pack
  rw [gt_packN]
  by_cases h : i / 8 < (X.length + 7) / 8
  · rw [if_pos h, ofN_n _ (byteN_lt _ _)]
    unfold byteN
    rw [testBit_bsN, decide_eq_true (show i % 8 < 8 by omega), Bool.true_and, show 8 * (i / 8) + i % 8 = i by omega]
  · rw [if_neg h, n_zero, gbit_ge (by omega)]
    simp
theorem byteN_bitsOf (l : List F) (j : Nat) : byteN (bitsOf l) j = (gt l j).n := by
  unfold byteN
  have h : ∀ k, k < 8 → gbit (bitsOf l) (8 * j + k) = (gt l j).n.testBit k := fun k hk => by
    rw [gbit_bitsOf]
    unfold rb
    rw [show (8 * j + k) / 8 = j by omega, show (8 * j + k) % 8 = k by omega]
  rw [bsN_congr h, bsN_testBit]
  exact Nat.mod_eq_of_lt (gt l j).lt
theorem pack_append {X : List Bool} (h : X.length % 8 = 0) (l : List F) : pack (X ++ bitsOf l) = pack X ++ l := by
  have h1 : (pack X).length = X.length / 8 := by rw [pack_length]; omega
  refine ext_gt (by rw [pack_length, List.length_append, List.length_append, h1, bitsOf_length]; omega) fun j hj => ?_
  rw [pack_length, List.length_append, bitsOf_length] at hj
  unfold pack
  rw [gt_packN, List.length_append, bitsOf_length, if_pos hj, gt_append, packN_length]
  by_cases e : j < (X.length + 7) / 8
  · rw [if_pos e, gt_packN, if_pos e]
    congr 1
    exact bsN_congr fun k hk => by rw [gbit_append, if_pos (by omega)]
  · rw [if_neg e]
    refine F.ext ?_
    rw [ofN_n _ (byteN_lt _ _), ← byteN_bitsOf]
    exact bsN_congr fun k hk => by rw [gbit_append, if_neg (by omega)]; congr 1; omega
/-- a number of a row's bits -/
def numB (l : List F) (at_ n : Nat) : Nat := bsN (fun i => rb l (at_ + i)) n
theorem numB_lt (l : List F) (at_ n : Nat) : numB l at_ n < 2 ^ n := bsN_lt _ _
theorem numB_succ (l : List F) (at_ n : Nat) : numB l at_ (n + 1) = numB l at_ n + (if rb l (at_ + n) then 2 ^ n else 0) := rfl
/-- what was put is got -/
theorem numB_put {X Y Z : List Bool} {v n : Nat} {at_ : Nat} (h : X = Y ++ putB v n ++ Z) (ha : at_ = Y.length) : numB (pack X) at_ n = v % 2 ^ n := by
  unfold numB
  rw [← bsN_testBit]
  refine bsN_congr fun i hi => ?_
  rw [rb_pack, h, ha, gbit_append, if_pos (by simp [putB_length]; omega), gbit_append, if_neg (by omega), gbit_putB, show Y.length + i - Y.length = i by omega, decide_eq_true hi, Bool.true_and]
theorem pack_take {X : List Bool} (h : X.length % 8 = 0) (Y : List Bool) : (pack (X ++ Y)).take (X.length / 8) = pack X := by
  have h1 : (pack X).length = X.length / 8 := by rw [pack_length]; omega
  refine ext_gt (by rw [List.length_take, pack_length, h1, List.length_append]; omega) fun j hj => ?_
  rw [List.length_take, pack_length, List.length_append] at hj
  rw [gt_take, if_pos (by omega)]
  unfold pack
  rw [gt_packN, gt_packN, if_pos (by rw [List.length_append]; omega), if_pos (by omega)]
  congr 1
  exact bsN_congr fun k hk => by rw [gbit_append, if_pos (by omega)]
theorem or_bit (a r : Nat) (b : Bool) (ha : a < 2 ^ r) : a ||| (if b then 2 ^ r else 0) = a + (if b then 2 ^ r else 0) := by
  cases b
  · simp
  · have h := Nat.two_pow_add_eq_or_of_lt ha 1
    rw [Nat.mul_one] at h
    simp only [if_true]
    rw [Nat.or_comm, ← h, Nat.add_comm]
end
section
/- Lit -/
set_option linter.unusedVariables false

/-- a number's lowest bytes -/
def putL (v : Nat) : Nat → List F
  | 0 => []
  | k + 1 => putL v k ++ [ofN (v / 256 ^ k % 256)]
theorem putL_length (v k : Nat) : (putL v k).length = k := by
  induction k with
  | zero => rfl
  | succ k ih => simp [putL, ih]
theorem gt_putL (v k i : Nat) (h : i < k) : gt (putL v k) i = ofN (v / 256 ^ i % 256) := by
  induction k with
  | zero => omega
  | succ k ih =>
    unfold putL
    rw [gt_append, putL_length]
    by_cases e : i < k
    · rw [if_pos e, ih e]
    · rw [if_neg e]
      obtain rfl : i = k := by omega
      simp [gt]
/-- the number of bytes -/
def getL : List F → Nat
  | [] => 0
  | x :: l => x.n + 256 * getL l
theorem getL_append (l m : List F) : getL (l ++ m) = getL l + 256 ^ l.length * getL m := by
  induction l with
  | nil => simp [getL]
  | cons x l ih =>
    show x.n + 256 * getL (l ++ m) = x.n + 256 * getL l + 256 ^ (l.length + 1) * getL m
    rw [ih, Nat.pow_succ, Nat.mul_add, Nat.mul_comm (256 ^ l.length) 256, Nat.mul_assoc]
    omega
theorem getL_lt (l : List F) : getL l < 256 ^ l.length := by
  induction l with
  | nil => decide
  | cons x l ih =>
    show x.n + 256 * getL l < 256 ^ (l.length + 1)
    have := x.lt
    rw [Nat.pow_succ]
    omega
theorem getL_one (x : F) : getL [x] = x.n := by simp [getL]
theorem getL_snoc (l : List F) (x : F) : getL (l ++ [x]) = getL l + 256 ^ l.length * x.n := by rw [getL_append, getL_one]
theorem getL_putL (v k : Nat) : getL (putL v k) = v % 256 ^ k := by
  induction k with
  | zero => simp [putL, getL, Nat.mod_one]
  | succ k ih =>
    unfold putL
    rw [getL_snoc, ih, putL_length, ofN_n _ (Nat.mod_lt _ (by decide)), Nat.pow_succ, Nat.mod_mul]
theorem putL_getL (l : List F) : putL (getL l) l.length = l := by
  refine ext_gt (putL_length _ _) fun i hi => ?_
  rw [putL_length] at hi
  rw [gt_putL _ _ _ hi]
  have e : l = l.take i ++ ([gt l i] ++ l.drop (i + 1)) := by
    rw [gt_lt hi]
    conv => lhs; rw [← List.take_append_drop i l, List.drop_eq_getElem_cons hi]
    rfl
  have hl : (l.take i).length = i := by simp; omega
  have h1 : getL l = getL (l.take i) + 256 ^ i * ((gt l i).n + 256 * getL (l.drop (i + 1))) := by
    conv => lhs; rw [e]
    rw [getL_append, hl]
    rfl
  have h2 := getL_lt (l.take i)
  rw [hl] at h2
  refine F.ext ?_
  have hx := (gt l i).lt
  rw [h1, Nat.add_mul_div_left _ _ (Nat.pow_pos (by decide)), Nat.div_eq_of_lt h2, ofN_n _ (Nat.mod_lt _ (by decide))]
  omega
/-- a size within its bounds -/
def heldN (s : Int) (m : Nat) : Nat := (min (max s 0) (m : Int)).toNat
theorem heldN_le (s : Int) (m : Nat) : heldN s m ≤ m := by unfold heldN; omega
theorem pow256 (k : Nat) : 256 ^ k = 2 ^ (8 * k) := by rw [Nat.pow_mul]
/-- the next byte of a number, a place up -/
theorem or_byte (a x k : Nat) (ha : a < 256 ^ k) : a ||| x * 2 ^ (8 * k) = a + 256 ^ k * x := by
  rw [pow256] at *
  rw [Nat.mul_comm x, Nat.or_comm, ← Nat.two_pow_add_eq_or_of_lt ha x, Nat.add_comm]
theorem getL_take_succ (l : List F) (k : Nat) (h : k < l.length) : getL (l.take (k + 1)) = getL (l.take k) + 256 ^ k * (gt l k).n := by
  rw [gt_lt h, List.take_succ_eq_append_getElem h, getL_snoc]
  simp [show min k l.length = k by omega]
theorem putL_succ (v k : Nat) : putL v (k + 1) = putL v k ++ [ofN (v / 256 ^ k % 256)] := rfl
end
section
/- BitA -/
open Go.RowKit
set_option maxRecDepth 100000
set_option linter.unusedVariables false

/-- what stays as it was but the writer and its bytes' block -/
structure WOut (p : Nat) (a a' : Option Nat) (w w' : World) : Prop where
  os : w'.os = w.os
  tape : w'.tape = w.tape
  output : w'.output = w.output
  size : w.heap.size ≤ w'.heap.size
  block : ∀ k, k < w.heap.size → k ≠ p → a ≠ some k → w'.heap[k]? = w.heap[k]?
  nw : a' = a ∨ ∀ g, a' = some g → w.heap.size ≤ g
namespace WOut
variable {p : Nat} {a b c : Option Nat} {w w' w'' : World}
theorem refl (p : Nat) (a : Option Nat) (w : World) : WOut p a a w w := ⟨rfl, rfl, rfl, Nat.le_refl _, fun _ _ _ _ => rfl, .inl rfl⟩
theorem trans (h : WOut p a b w w') (k : WOut p b c w' w'') : WOut p a c w w'' :=
  ⟨k.os.trans h.os, k.tape.trans h.tape, k.output.trans h.output, Nat.le_trans h.size k.size, fun i hi hp ha => (k.block i (Nat.lt_of_lt_of_le hi h.size) hp (fun e => by
      rcases h.nw with h1 | h1
      · rw [h1] at e; exact ha e
      · have := h1 i e; omega)).trans (h.block i hi hp ha), by
    rcases k.nw with h1 | h1
    · rw [h1]; exact h.nw
    · exact .inr fun g hg => Nat.le_trans h.size (h1 g hg)⟩
theorem drewN (h : WOut p a b w w') (q : Nat) : WOut p a b w (w'.drewN q) := ⟨h.os, h.tape, h.output, h.size, h.block, h.nw⟩
theorem setP (h : WOut p a b w w') (i : Nat) (v : Value) : WOut p a b w (w'.setCell ⟨p, i, none⟩ v) :=
  ⟨h.os, h.tape, h.output, by simpa [World.setCell] using h.size, fun k hk hp ha => (Below.heap_setCell _ _ _ _ hp).trans (h.block k hk hp ha), h.nw⟩
theorem below {B : Nat} (h : WOut p a b w w') (hB : B ≤ p) (hs : B ≤ w.heap.size) (ha : ∀ g, a = some g → B ≤ g) : Below B w w' :=
  ⟨h.os, h.tape, h.output, h.size, fun k hk => h.block k (by omega) (by omega) (fun e => by have := ha k e; omega)⟩
end WOut
theorem own_set_other {w : World} {base n : Nat} {e : TypeId} {v : Value} {xs : List Value} (h : w.ownsRow base e 1 v n xs) {a : Addr} (ha : a.block < base) (u : Value) : (w.setCell a u).ownsRow base e 1 v n xs := by
  refine ⟨h.1, ?_⟩
  rcases h.2 with hn | ⟨g, cap, cur, rfl, hbg, hg, rest⟩
  · exact .inl hn
  · exact .inr ⟨g, cap, cur, rfl, hbg, (Below.heap_setCell w a u g (by omega)).trans hg, rest⟩
theorem own_addr {w : World} {base n c : Nat} {e : TypeId} {A : Option Addr} {xs : List Value} (h : w.ownsRow base e 1 (.slice A n c) n xs) (hn : 0 < n) : ∃ g, A = some ⟨g, 0, none⟩ ∧ base ≤ g ∧ g < w.heap.size := by
  rcases h.2 with ⟨hv, h0⟩ | ⟨g, cap, cur, hv, hb, hg, _⟩
  · omega
  · injection hv with hv
    exact ⟨g, hv, hb, (Array.getElem?_eq_some_iff.1 hg).1⟩
theorem odd32 (v : Nat) (hv : v < 4294967296) : bits BinOp.and IntKind.u32 (v : Int) 1 = ((v % 2 : Nat) : Int) := by
  rw [show (1 : Int) = ((1 : Nat) : Int) from rfl, u32_and_nat _ _ hv (by omega), Nat.and_one_is_mod]
section
variable {w : World} {p : Nat} {A : Option Addr} {len cap n : Nat} {X : List Bool}
end
/-- the bit is put into the last byte -/
theorem bit_or (a r : Nat) (v : Nat) (ha : a < 2 ^ r) (hr : r < 8) (hv : v < 4294967296) : bits BinOp.or IntKind.u8 (a : Int) (IntKind.u8.wrap (IntKind.u8.wrap ((v : Int) % 2) * 2 ^ r)) = ((a + (if v.testBit 0 then 2 ^ r else 0) : Nat) : Int) := by
  have hp : 2 ^ r ≤ 2 ^ 7 := Nat.pow_le_pow_right (by decide) (by omega)
  have e7 : (2 : Nat) ^ 7 = 128 := rfl
  have h2 : v % 2 * 2 ^ r = if v.testBit 0 then 2 ^ r else 0 := by
    rw [Nat.testBit_zero]
    rcases Nat.mod_two_eq_zero_or_one v with h | h <;> simp [h]
  have h3 : ((v % 2 : Nat) : Int) * 2 ^ r = ((v % 2 * 2 ^ r : Nat) : Int) := by simp
  have h4 : v % 2 * 2 ^ r ≤ 2 ^ r := by rw [h2]; split <;> omega
  have h5 : IntKind.u8.wrap ((v : Int) % 2) = ((v % 2 : Nat) : Int) := by rw [IntKind.wrap_u8']; omega
  rw [h5, h3, IntKind.wrap_u8', show ((v % 2 * 2 ^ r : Nat) : Int) % 256 = ((v % 2 * 2 ^ r : Nat) : Int) by omega, u8_or_nat _ _ (by omega) (by omega), h2, or_bit a r _ ha]
namespace Wm
variable {w : World} {p g k cap n r : Nat} {X : List Bool}
end Wm
theorem WOut.setG {p g : Nat} {a : Option Nat} {w w' : World} (h : WOut p a (some g) w w') (i : Nat) (v : Value) : WOut p a (some g) w (w'.setCell ⟨g, i, none⟩ v) := by
  refine h.trans ⟨rfl, rfl, rfl, by simp [World.setCell], fun k hk hp ha => Below.heap_setCell _ _ _ _ (fun e => ha (by simp at e; rw [e])), .inl rfl⟩
theorem WOut.drew {p : Nat} {a b : Option Nat} {w w' : World} (h : WOut p a b w w') : WOut p a b w w'.drew := ⟨h.os, h.tape, h.output, h.size, h.block, h.nw⟩
end
section
/- BitB -/
open Go.RowKit
set_option maxRecDepth 100000
set_option linter.unusedVariables false

theorem putB_succ (v j : Nat) : putB v (j + 1) = putB v j ++ [v.testBit j] := range_map_succ _ _
/-- the first j of a number's k lowest bits, the highest one first -/
def codeP (v k j : Nat) : List Bool := (List.range j).map fun i => v.testBit (k - 1 - i)
theorem codeP_succ (v k j : Nat) : codeP v k (j + 1) = codeP v k j ++ [v.testBit (k - 1 - j)] := range_map_succ _ _
theorem testBit_shift (v j : Nat) : (v / 2 ^ j).testBit 0 = v.testBit j := by
  rw [Nat.testBit_eq_decide_div_mod_eq, Nat.testBit_eq_decide_div_mod_eq, Nat.pow_zero, Nat.div_one]
section
variable {w : World} {p : Nat} {A : Option Addr} {len cap n : Nat} {X : List Bool}
end
end
section
/- BitC -/
open Go.RowKit
set_option maxRecDepth 100000
set_option linter.unusedVariables false

theorem val_u32 {a b : Int} (h : a = b) : Value.int .u32 a = .int .u32 b := by rw [h]
section
variable {w : World} {p : Nat} {A : Option Addr} {len cap : Nat} {l : List F} {at_ : Nat}
/-- a place up to a byte's end -/
def upB (n : Nat) : Nat := (n + 7) / 8 * 8
/-- the next bit is put above those that stand -/
theorem get_step (l : List F) (at_ j : Nat) (hj : j < 32) : bits BinOp.or IntKind.u32 (numB l at_ j : Int) (bits BinOp.and IntKind.u8 ((gt l ((at_ + j) / 8)).n / 2 ^ ((at_ + j) % 8)) 1 % 4294967296 * 2 ^ j % 4294967296) = ((numB l at_ (j + 1) : Nat) : Int) := by
  have hx := (gt l ((at_ + j) / 8)).lt
  have h1 : ((gt l ((at_ + j) / 8)).n : Int) / 2 ^ ((at_ + j) % 8) = (((gt l ((at_ + j) / 8)).n / 2 ^ ((at_ + j) % 8) : Nat) : Int) := by simp
  have h2 : (gt l ((at_ + j) / 8)).n / 2 ^ ((at_ + j) % 8) < 256 := Nat.lt_of_le_of_lt (Nat.div_le_self _ _) hx
  have h3 : (gt l ((at_ + j) / 8)).n / 2 ^ ((at_ + j) % 8) % 2 = if rb l (at_ + j) then 1 else 0 := by
    unfold rb
    rw [Nat.testBit_eq_decide_div_mod_eq]
    rcases Nat.mod_two_eq_zero_or_one ((gt l ((at_ + j) / 8)).n / 2 ^ ((at_ + j) % 8)) with h | h <;> simp [h]
  have hp : 2 ^ j ≤ 2 ^ 31 := Nat.pow_le_pow_right (by decide) (by omega)
  have e31 : (2 : Nat) ^ 31 = 2147483648 := rfl
  have hn := numB_lt l at_ j
  have h4 : (((if rb l (at_ + j) then 1 else 0 : Nat) : Int) % 4294967296 * 2 ^ j % 4294967296) = ((if rb l (at_ + j) then 2 ^ j else 0 : Nat) : Int) := by
    cases rb l (at_ + j)
    · simp
    · have e : ((2 : Int) ^ j) = ((2 ^ j : Nat) : Int) := by simp
      simp only [if_true]
      rw [e]
      omega
  rw [h1, show (1 : Int) = ((1 : Nat) : Int) from rfl, u8_and_nat _ _ h2 (by omega), Nat.and_one_is_mod, h3, h4, u32_or_nat _ _ (by omega) (by split <;> omega), numB_succ, or_bit _ _ _ hn]
end
end
section
/- LitA -/
open Go.RowKit
set_option maxRecDepth 100000
set_option linter.unusedVariables false

theorem two64_pow : two64 = 256 ^ 8 := by decide
theorem ret_u64 {a b : Int} (h : a = b) : Ending.returned (.int .u64 a) = .returned (.int .u64 b) := by rw [h]
theorem val_u64 {a b : Int} (h : a = b) : Value.int .u64 a = .int .u64 b := by rw [h]
theorem wrap_u64_nat (n : Nat) : IntKind.u64.wrap (n : Int) = ((n % two64 : Nat) : Int) := by
  rw [IntKind.wrap_u64]
  unfold two64
  omega
theorem wrap_u64_lt {n : Nat} (h : n < two64) : IntKind.u64.wrap (n : Int) = (n : Int) := by rw [wrap_u64_nat, Nat.mod_eq_of_lt h]
theorem pow256_le {k : Nat} (h : k < 8) {x : Nat} (hx : x < 256) : 256 ^ k * x + 256 ^ k ≤ two64 := by
  rw [two64_pow]
  have h1 : 256 ^ k * (x + 1) ≤ 256 ^ k * 256 := Nat.mul_le_mul_left _ hx
  have h2 : 256 ^ (k + 1) ≤ 256 ^ 8 := Nat.pow_le_pow_right (by decide) h
  rw [Nat.pow_succ] at h2
  rw [Nat.mul_add, Nat.mul_one] at h1
  exact Nat.le_trans h1 h2
/-- the next byte is put above those that stand -/
theorem or64 (a k : Nat) (x : F) (ha : a < 256 ^ k) (hk : k < 8) : bits BinOp.or IntKind.u64 (a : Int) (IntKind.u64.wrap (IntKind.u64.wrap (x.n : Int) * 2 ^ (8 * k))) = ((a + 256 ^ k * x.n : Nat) : Int) := by
  have h1 := pow256_le hk x.lt
  have hx : x.n < two64 := Nat.lt_of_lt_of_le x.lt (by decide)
  have hp : 0 < 256 ^ k := Nat.pow_pos (by decide)
  have h2 : (x.n : Int) * 2 ^ (8 * k) = ((x.n * 2 ^ (8 * k) : Nat) : Int) := by simp
  have h3 : x.n * 2 ^ (8 * k) = 256 ^ k * x.n := by rw [← pow256, Nat.mul_comm]
  rw [wrap_u64_lt hx, h2, wrap_u64_lt (by rw [h3]; omega), bits_or_u64_nat _ _ (show a < two64 by omega) (show _ < two64 by rw [h3]; omega), or_byte _ _ _ ha]
theorem sum64 (a k : Nat) (x : F) (ha : a < 256 ^ k) (hk : k < 8) : IntKind.u64.wrap ((a : Int) + IntKind.u64.wrap (IntKind.u64.wrap (x.n : Int) * (256 ^ k % (two64 : Nat) : Int))) = ((a + 256 ^ k * x.n : Nat) : Int) := by
  have h1 := pow256_le hk x.lt
  have hx : x.n < two64 := Nat.lt_of_lt_of_le x.lt (by decide)
  have hp : 0 < 256 ^ k := Nat.pow_pos (by decide)
  have hpl : 256 ^ k < two64 := by rw [two64_pow]; exact Nat.pow_lt_pow_right (by decide) hk
  have h2 : (256 ^ k % (two64 : Nat) : Int) = ((256 ^ k : Nat) : Int) := by
    rw [show (256 ^ k % (two64 : Nat) : Int) = ((256 ^ k % two64 : Nat) : Int) by simp, Nat.mod_eq_of_lt hpl]
  have h3 : x.n * 256 ^ k = 256 ^ k * x.n := Nat.mul_comm _ _
  rw [wrap_u64_lt hx, h2, ← Int.natCast_mul, wrap_u64_lt (by omega), ← Int.natCast_add, wrap_u64_lt (by omega), h3]
theorem by64 (k : Nat) : IntKind.u64.wrap ((256 ^ k % (two64 : Nat) : Int) * 256) = ((256 ^ (k + 1) % two64 : Nat) : Int) := by
  rw [show (256 ^ k % (two64 : Nat) : Int) * 256 = ((256 ^ k % two64 * 256 : Nat) : Int) by simp, wrap_u64_nat, Nat.mul_mod, Nat.mod_mod, ← Nat.mul_mod, Nat.pow_succ]
theorem heldN_cast (s : Int) (m : Nat) : ((heldN s m : Nat) : Int) = min (max s 0) (m : Int) := by unfold heldN; omega
theorem held_c (s : Int) (w : World) : Calls Tryd.prog 58 #[.int .i64 s] w fun e w' => e = .returned (.int .i64 (heldN s 8)) ∧ w = w' := by
  go_enter Tryd.func58, Tryd.ntmps58
  go_wp2
  all_goals (go_ret; exact ⟨ret_i64 (by rw [heldN_cast]; omega), rfl⟩)
theorem ret_bool7 {a b : Bool} (h : a = b) : Ending.returned (.bool a) = .returned (.bool b) := by rw [h]
set_option maxHeartbeats 2000000 in
theorem Put_c (v : Nat) (hv : v < two64) (s : Int) (w : World) :
    Calls Tryd.prog 41 #[.int .u64 v, .int .i64 s] w fun e w' => ∃ g, e = .returned (.slice (some ⟨g, 0, none⟩) (heldN s 8) (heldN s 8)) ∧ w'.ownsRow w.heap.size 5 1 (.slice (some ⟨g, 0, none⟩) (heldN s 8) (heldN s 8)) (heldN s 8) (cs (putL v (heldN s 8))) ∧ Below w.heap.size w w' := by
  obtain ⟨i0, hi, hz0, hz1, hz2⟩ := info_parts info_u8
  have hm := heldN_le s 8
  have hheld := held_c s
  generalize heldN s 8 = m at *
  have HH := Lib.hid hheld
  clear hheld
  go_enter Tryd.func41, Tryd.ntmps41
  go_wp2_with (first
    | (go_at_call 58; refine (HH.out _).mono ?_; rintro e w' ⟨rfl, rfl⟩)
    | (at_make; refine wpList_make_full _ rfl _ _ 31 rfl w.heap.size 5 i0 (.int .u8 0) 1 Tryd.underlying31 hi hz0 hz1 _ _ _ _ m rfl rfl rfl rfl (by rw [hz2]; omega) (by unfold maxLen; omega) (Nat.le_refl _) ?_; intro w0 hown0 hgrow0))
  go_loopw [12] (fun i wr => ∃ k : Nat, k ≤ m ∧ i = .int .i64 k ∧ wr.ownsRow w.heap.size 5 1 (.slice (some ⟨w.heap.size, 0, none⟩) m m) m (cs (part (putL v m) k)) ∧ Below w.heap.size w wr) (fun i _ => m - (intOf i).toNat)
  case atStart => exact ⟨0, by omega, rfl, part_cells _ _ _ _ (putL_length _ _) hown0, (Below.refl _ _).grown hgrow0 (Nat.le_refl _) (fun k h => by cases h)⟩
  case round =>
    obtain ⟨k, hk, rfl, hown, hbel⟩ := hrel
    by_cases hlt : k < m
    · have hkn : (k : Int) < m := by omega
      have hval : Hid (gt (putL v m) k = ofN (v / 256 ^ k % 256)) := by unfold Hid; rw [gt_putL _ _ _ hlt]
      have hfz := hown.frozenAt k
      have hl2 : Hid ((part (putL v m) k).length = m) := by unfold Hid; rw [part_length, putL_length]
      have hc2 := hown.cellAt k (by omega)
      rw [cs_at (by rw [hl2.out]; exact hlt)] at hc2
      have hs := Lib.hid (hown.stored k (.int .u8 (ofN (v / 256 ^ k % 256)).n)).1
      have hbyte : Hid ((v : Int) / 2 ^ (8 * k) % 256 = ((ofN (v / 256 ^ k % 256)).n : Int)) := by
        unfold Hid
        rw [ofN_n _ (Nat.mod_lt _ (by decide)), pow256]
        simp
      clear hv
      go_wp2
      go_roundw
      case rel =>
        refine ⟨k + 1, by omega, by go_num, ?_, hbel.setCell (Nat.le_refl _) _⟩
        have hs := hs.out
        rw [cs_set, ← hval.out, part_set _ _ (by rw [putL_length]; exact hlt)] at hs
        rw [hbyte.out, ← hval.out]
        exact hs
      case measure => simp [intOf]; omega
    · have hk2 : Hid (part (putL v m) k = putL v m) := by
        unfold Hid
        rw [show k = (putL v m).length by rw [putL_length]; omega, part_all]
      go_wp2
      go_ret
      refine ⟨_, rfl, ?_, hbel⟩
      rw [hk2.out] at hown
      exact hown
set_option maxHeartbeats 2000000 in
theorem Get_c (A : Option Addr) (n c : Nat) (l : List F) (w : World) (h : Row w A n l) :
    Calls Tryd.prog 48 #[.slice A n c] w fun e w' => e = .returned (.int .u64 (getL (l.take 8))) ∧ w = w' := by
  have hnm := h.max
  have HL := Lib.hid h.len
  obtain ⟨m, hm⟩ : ∃ m, m = min n 8 := ⟨_, rfl⟩
  have hmi : (if (8 : Int) < n then 8 else (n : Int)) = (m : Int) := by split <;> omega
  have HM := Lib.hid hm
  have hm8 : m ≤ 8 := by omega
  have hmn : m ≤ n := by omega
  clear hm
  go_enter Tryd.func48, Tryd.ntmps48
  go_wp2
  go_loop [3, 8] (fun v i => ∃ k : Nat, k ≤ m ∧ i = .int .i64 k ∧ v = .int .u64 (getL (l.take k))) (fun _ i => m - (intOf i).toNat)
  case atStart => exact ⟨0, by omega, rfl, rfl⟩
  case round =>
    obtain ⟨k, hk, rfl, rfl⟩ := hrel
    by_cases hlt : k < m
    · have hkn : (k : Int) < m := by omega
      obtain ⟨b, o, rfl, _, hc⟩ := h.at_ (k := k) (by omega)
      have hk8 : k < 8 := by omega
      have hor := or64 (getL (l.take k)) k (gt l k) (by have := getL_lt (l.take k); rw [List.length_take, HL.out, show min k n = k by omega] at this; exact this) hk8
      rw [← getL_take_succ l k (by rw [HL.out]; omega)] at hor
      have HO := Lib.hid hor
      clear hor
      go_wp2
      go_round
      case rel => exact ⟨k + 1, by omega, by go_num, val_u64 HO.out⟩
      case measure => simp [intOf]; omega
    · have hfin : Hid (l.take k = l.take 8) := by
        unfold Hid
        have := HM.out
        have := HL.out
        rcases (show n ≤ 8 ∨ k = 8 by omega) with h8 | h8
        · rw [List.take_of_length_le (by omega), List.take_of_length_le (by omega)]
        · rw [h8]
      go_wp2
      go_ret
      exact ⟨ret_u64 (by rw [hfin.out]), rfl⟩
set_option maxHeartbeats 2000000 in
theorem RefGet_c (A : Option Addr) (n c : Nat) (l : List F) (w : World) (h : Row w A n l) :
    Calls Tryd.prog 52 #[.slice A n c] w fun e w' => e = .returned (.int .u64 (getL (l.take 8))) ∧ w = w' := by
  have hnm := h.max
  have HL := Lib.hid h.len
  go_enter Tryd.func52, Tryd.ntmps52
  go_wp2
  go_loop [3, 4, 5] (fun v by_ i => ∃ k : Nat, k ≤ n ∧ k ≤ 8 ∧ i = .int .i64 k ∧ v = .int .u64 (getL (l.take k)) ∧ by_ = .int .u64 ((256 ^ k % two64 : Nat) : Int)) (fun _ _ i => n - (intOf i).toNat)
  case atStart => exact ⟨0, by omega, by omega, rfl, rfl, rfl⟩
  case round =>
    obtain ⟨k, hk, hk8, rfl, rfl, rfl⟩ := hrel
    by_cases hlt : k < n
    · have hkn : (k : Int) < n := by omega
      obtain ⟨b, o, rfl, _, hc⟩ := h.at_ (k := k) (by omega)
      by_cases h8 : k < 8
      · have hk8i : (k : Int) < 8 := by omega
        have hsum := sum64 (getL (l.take k)) k (gt l k) (by have := getL_lt (l.take k); rw [List.length_take, HL.out, show min k n = k by omega] at this; exact this) h8
        rw [← getL_take_succ l k (by rw [HL.out]; omega)] at hsum
        have HS := Lib.hid hsum
        clear hsum
        go_wp2
        go_round
        case rel => exact ⟨k + 1, by omega, by omega, by go_num, val_u64 HS.out, val_u64 (by64 k)⟩
        case measure => simp [intOf]; omega
      · have hk8i : ¬ (k : Int) < 8 := by omega
        obtain rfl : k = 8 := by omega
        go_wp2
        go_ret
        exact ⟨rfl, rfl⟩
    · have hkn : ¬ (k : Int) < n := by omega
      have hfin : Hid (l.take k = l.take 8) := by
        unfold Hid
        have := HL.out
        rw [List.take_of_length_le (by omega), List.take_of_length_le (by omega)]
      go_wp2
      go_ret
      exact ⟨ret_u64 (by rw [hfin.out]), rfl⟩
set_option maxHeartbeats 2000000 in
theorem RefPut_c (v : Nat) (hv : v < two64) (s : Int) (w : World) :
    Calls Tryd.prog 47 #[.int .u64 v, .int .i64 s] w fun e w' => ∃ A c, e = .returned (.slice A (heldN s 8) c) ∧ w'.ownsRow w.heap.size 5 1 (.slice A (heldN s 8) c) (heldN s 8) (cs (putL v (heldN s 8))) ∧ Below w.heap.size w w' := by
  obtain ⟨i0, hi, hz0, hz1, hz2⟩ := info_parts info_u8
  go_enter Tryd.func47, Tryd.ntmps47
  go_wp2
  go_loopw [0, 5, 6] (fun u o i wr => ∃ (k c : Nat) (A : Option Addr), k ≤ heldN s 8 ∧ i = .int .i64 k ∧ u = .int .u64 ((v / 256 ^ k : Nat) : Int) ∧ o = .slice A k c ∧ wr.ownsRow w.heap.size 5 1 (.slice A k c) k (cs (putL v k)) ∧ Below w.heap.size w wr) (fun _ _ i _ => 8 - (intOf i).toNat)
  case atStart => exact ⟨0, 0, _, by omega, rfl, by simp, rfl, World.ownsRow_made w #[] 0 (Nat.le_refl _) (Nat.zero_le _) rfl, (Below.refl _ _).alloc (Nat.le_refl _) _⟩
  case round =>
    obtain ⟨k, c, A, hk, rfl, rfl, rfl, hown, hbel⟩ := hrel
    have hle := heldN_le s 8
    have hh := heldN_cast s 8
    by_cases hlt : k < heldN s 8
    · have hks : (k : Int) < s := by omega
      have hk8 : (k : Int) < 8 := by omega
      clear hh
      obtain ⟨x, hx⟩ : ∃ x : F, x = ofN (v / 256 ^ k % 256) := ⟨_, rfl⟩
      have hb : Hid (((v : Int) / 256 ^ k).tmod 256 % 256 = (x.n : Int)) := by
        unfold Hid
        rw [hx, ofN_n _ (Nat.mod_lt _ (by decide)), show (v : Int) / 256 ^ k = ((v / 256 ^ k : Nat) : Int) by simp, Int.tmod_eq_emod_of_nonneg (Int.natCast_nonneg _)]
        generalize v / 256 ^ k = q
        omega
      have HX := Lib.hid hx
      clear hx
      have hq : Hid (IntKind.u64.wrap (((v : Int) / 256 ^ k).tdiv 256) = ((v / 256 ^ (k + 1) : Nat) : Int)) := by
        unfold Hid
        have hlt2 : v / 256 ^ (k + 1) < two64 := Nat.lt_of_le_of_lt (Nat.div_le_self _ _) hv
        rw [← wrap_u64_lt hlt2]
        refine congrArg _ ?_
        rw [Nat.pow_succ, ← Nat.div_div_eq_div_mul, show (v : Int) / 256 ^ k = ((v / 256 ^ k : Nat) : Int) by simp, Int.tdiv_eq_ediv_of_nonneg (Int.natCast_nonneg _)]
        generalize v / 256 ^ k = q
        omega
      have hws := hbel.size
      clear hv
      go_wp2_with (at_builtin; (refine wpList_append_own _ rfl _ _ 31 rfl w.heap.size 5 i0 (.int .u8 0) 1 1 Tryd.underlying31 hi hz0 hz1 hz2 rfl (by decide) _ _ _ rfl (hown.alloc _) ⟨wr.heap.size, 0, none⟩ 1 1 [.int .u8 (((v : Int) / 256 ^ k).tmod 256 % 256)] rfl rfl (one_cell wr _ _) (by intro u hu; simp at hu; subst hu; rfl) (by unfold maxLen; omega) (by omega) (by simp; omega) ?_); intro v' w1 hown' hgrow hnil)
      obtain ⟨V', cv', hv, _⟩ := own_shape hown'
      subst hv
      go_wp2
      go_roundw
      case rel =>
        refine ⟨k + 1, cv', V', by omega, by go_num, val_u64 hq.out, rfl, ?_, (hbel.alloc hbel.size _).grown hgrow (by have := hbel.size; simp; omega) (fun g hg => (hown.lt g hg).1)⟩
        rw [hb.out] at hown'
        rw [putL_succ, cs_append, ← HX.out]
        exact hown'
      case measure => simp [intOf]; omega
    · obtain rfl : k = heldN s 8 := by omega
      by_cases hks : ((heldN s 8 : Nat) : Int) < s
      · have hk8 : ¬ ((heldN s 8 : Nat) : Int) < 8 := by omega
        clear hh
        go_wp2
        go_ret
        exact ⟨A, c, rfl, hown, hbel⟩
      · clear hh
        go_wp2
        go_ret
        exact ⟨A, c, rfl, hown, hbel⟩
end
end Go.Proofs.YtacllgglpjdobaaDoor
