/-
  LAYER 8, WITHOUT ANY PROGRAM: rows of bits, the bytes that hold them, and numbers of bits. No conditions.
  LAYER 7, WITHOUT ANY PROGRAM: a number's bytes, the lowest one first, and back. No conditions.
  THE CONTRACTS OF bits' WRITER. The writer is a block of its own; what it holds are the bits that were put.
  THE CONTRACTS OF bits' WRITER, as it is used: Put, Code, Bytes.
  THE CONTRACTS OF bits' READER.
  THE CONTRACTS OF PACKAGE little's NUMBERS (Put, Get, Fits) AND OF THE DOCUMENT's OWN. No conditions but that numbers are such.
-/
import Derived.Test.YtldgdofefcehnaaGreatDoorBase
import Derived.StillTailTactics
import Derived.RegionTactic
import Derived.Deep.RegionLaw
namespace Go.Proofs.YtldgdofefcehnaaGreatDoor
section
set_option linter.unusedVariables false
def bsN (f : Nat → Bool) : Nat → Nat
 | 0 => 0
 | m + 1 => bsN f m + (if f m then 2 ^ m else 0)
theorem bsN_succ (f : Nat → Bool) (m : Nat) : bsN f (m + 1) = bsN f m + (if f m then 2 ^ m else 0) := rfl
theorem bsN_lt (f : Nat → Bool) (m : Nat) : bsN f m < 2 ^ m := by
 induction m with
 | zero => exact Nat.one_pos
 | succ m ih => rw [bsN_succ]; rw [Nat.pow_succ]; split <;> omega
theorem bsN_congr {f g : Nat → Bool} {m : Nat} (h : ∀ i, i < m → f i = g i) : bsN f m = bsN g m := by
 induction m with
 | zero => rfl
 | succ m ih =>
  rw [bsN_succ, bsN_succ, ih fun i hi => h i (by omega), h m (by omega)]
theorem bsN_part {f : Nat → Bool} {r m : Nat} (hr : r ≤ m) (h : ∀ i, r ≤ i → i < m → f i = false) : bsN f m = bsN f r := by
 induction m with
 | zero => obtain rfl : r = 0 := by omega
           rfl
 | succ m ih =>
  rcases (show r ≤ m ∨ r = m + 1 by omega) with h1 | rfl
  ·rw [bsN_succ, ih h1 fun i hi hm => h i hi (by omega), h m h1 (by omega)]
   simp
  ·rfl
theorem bsN_testBit (v m : Nat) : bsN (fun i => v.testBit i) m = v % 2 ^ m := by
 induction m with
 | zero => simp [bsN, Nat.mod_one]
 | succ m ih =>
  rw [bsN_succ, ih, Nat.mod_pow_succ, Nat.testBit_eq_decide_div_mod_eq]
  rcases Nat.mod_two_eq_zero_or_one (v / 2 ^ m) with h | h <;> simp [h]
theorem testBit_bsN (f : Nat → Bool) (m i : Nat) : (bsN f m).testBit i = (decide (i < m) && f i) := by
 induction m with
 | zero => simp [bsN]
 | succ m ih =>
  have h := bsN_lt f m
  rw [bsN_succ]
  by_cases hf : f m = true
  ·rw [if_pos hf, Nat.add_comm]
   rcases Nat.lt_trichotomy i m with h1 | rfl | h1
   ·rw [Nat.testBit_two_pow_add_gt h1, ih]
    simp [h1, show i < m + 1 by omega]
   ·rw [Nat.testBit_two_pow_add_eq, ih]
    simp [hf]
   ·have e1 : (2 ^ m + bsN f m).testBit i = false := Nat.testBit_lt_two_pow (Nat.lt_of_lt_of_le (show 2 ^ m + bsN f m < 2 ^ (m + 1) by rw [Nat.pow_succ]; omega) (Nat.pow_le_pow_right (by decide) h1))
    rw [e1]
    simp [show ¬ i < m + 1 by omega]
  ·rw [if_neg hf, Nat.add_zero, ih]
   rcases Nat.lt_trichotomy i m with h1 | rfl | h1
   ·simp [h1, show i < m + 1 by omega]
   ·simp [hf]
   ·simp [show ¬ i < m by omega, show ¬ i < m + 1 by omega]
def gbit (X : List Bool) (i : Nat) : Bool := X.getD i false
theorem gbit_ge {X : List Bool} {i : Nat} (h : X.length ≤ i) : gbit X i = false := by simp [gbit, h]
theorem gbit_append (X Y : List Bool) (i : Nat) : gbit (X ++ Y) i = if i < X.length then gbit X i else gbit Y (i - X.length) := by
 unfold gbit
 by_cases h : i < X.length <;> simp [List.getD, List.getElem?_append, h]
def byteN (X : List Bool) (j : Nat) : Nat := bsN (fun k => gbit X (8 * j + k)) 8
theorem byteN_lt (X : List Bool) (j : Nat) : byteN X j < 256 := bsN_lt _ 8
def packN (X : List Bool) (m : Nat) : List F := mkF (fun j => ofN (byteN X j)) m
def pack (X : List Bool) : List F := packN X ((X.length + 7) / 8)
theorem packN_length (X : List Bool) (m : Nat) : (packN X m).length = m := mkF_length _ _
theorem pack_length (X : List Bool) : (pack X).length = (X.length + 7) / 8 := mkF_length _ _
theorem gt_packN (X : List Bool) (m j : Nat) : gt (packN X m) j = if j < m then ofN (byteN X j) else 0 := gt_mkF _ _ _
theorem byteN_ge {X : List Bool} {j : Nat} (h : X.length ≤ 8 * j) : byteN X j = 0 := by
 unfold byteN
 rw [bsN_part (r := 0) (by omega) fun i _ _ => gbit_ge (by omega)]
 rfl
theorem packN_succ_of {X : List Bool} {m : Nat} (h : X.length ≤ 8 * m) : packN X (m + 1) = packN X m ++ [0] := by
 show mkF _ m ++ [ofN (byteN X m)] = _
 rw [byteN_ge h]
 rfl
theorem byteN_last (X : List Bool) : byteN X (X.length / 8) < 2 ^ (X.length % 8) := by
 unfold byteN
 rw [bsN_part (r := X.length % 8) (by omega) fun i hi _ => gbit_ge (by omega)]
 exact bsN_lt _ _
theorem byteN_snoc (X : List Bool) (b : Bool) : byteN (X ++ [b]) (X.length / 8) = byteN X (X.length / 8) + (if b then 2 ^ (X.length % 8) else 0) := by
 have h1 : byteN (X ++ [b]) (X.length / 8) = bsN (fun k => gbit (X ++ [b]) (8 * (X.length / 8) + k)) (X.length % 8 + 1) :=
  bsN_part (by omega) fun i hi _ => gbit_ge (by simp; omega)
 have h2 : byteN X (X.length / 8) = bsN (fun k => gbit X (8 * (X.length / 8) + k)) (X.length % 8) :=
  bsN_part (by omega) fun i hi _ => gbit_ge (by omega)
 rw [h1, h2, bsN_succ]
 congr 1
 ·exact bsN_congr fun i hi => by rw [gbit_append, if_pos (by omega)]
 ·have e : gbit (X ++ [b]) (8 * (X.length / 8) + X.length % 8) = b := by
   rw [gbit_append, if_neg (by omega), show 8 * (X.length / 8) + X.length % 8 - X.length = 0 by omega]
   rfl
  rw [e]
theorem packN_snoc (X : List Bool) (b : Bool) : packN (X ++ [b]) (X.length / 8 + 1) = (packN X (X.length / 8 + 1)).set (X.length / 8) (ofN (byteN X (X.length / 8) + (if b then 2 ^ (X.length % 8) else 0))) := by
 refine ext_gt (by simp [packN_length]) fun j hj => ?_
 rw [packN_length] at hj
 rw [gt_set _ _ _ _ (by rw [packN_length]; omega), gt_packN, if_pos hj]
 by_cases e : j = X.length / 8
 ·rw [if_pos e, e, byteN_snoc]
 ·rw [if_neg e, gt_packN, if_pos hj]
  congr 1
  exact bsN_congr fun i hi => by rw [gbit_append, if_pos (by omega)]
theorem pack_snoc (X : List Bool) (b : Bool) : pack (X ++ [b]) = packN (X ++ [b]) (X.length / 8 + 1) := by
 unfold pack
 rw [show ((X ++ [b]).length + 7) / 8 = X.length / 8 + 1 by simp; omega]
def putB (v n : Nat) : List Bool := (List.range n).map fun i => v.testBit i
def codeB (v n : Nat) : List Bool := (List.range n).map fun i => v.testBit (n - 1 - i)
theorem putB_length (v n : Nat) : (putB v n).length = n := by simp [putB]
theorem codeB_length (v n : Nat) : (codeB v n).length = n := by simp [codeB]
theorem gbit_putB (v n i : Nat) : gbit (putB v n) i = (decide (i < n) && v.testBit i) := by
 unfold gbit putB
 by_cases h : i < n <;> simp [List.getD, h]
theorem gbit_codeB (v n i : Nat) : gbit (codeB v n) i = (decide (i < n) && v.testBit (n - 1 - i)) := by
 unfold gbit codeB
 by_cases h : i < n <;> simp [List.getD, h]
theorem range_map_succ {α : Type} (f : Nat → α) (k : Nat) : (List.range (k + 1)).map f = (List.range k).map f ++ [f k] := by simp [List.range_succ]
def alB (X : List Bool) : List Bool := X ++ List.replicate (8 * ((X.length + 7) / 8) - X.length) false
theorem alB_length (X : List Bool) : (alB X).length = 8 * ((X.length + 7) / 8) := by simp [alB]; omega
theorem gbit_alB (X : List Bool) (i : Nat) : gbit (alB X) i = gbit X i := by
 unfold alB
 rw [gbit_append]
 by_cases h : i < X.length
 ·rw [if_pos h]
 ·rw [if_neg h, gbit_ge (X := X) (by omega)]
  unfold gbit
  by_cases h2 : i - X.length < 8 * ((X.length + 7) / 8) - X.length <;> simp [List.getD, h2]
theorem byteN_alB (X : List Bool) (j : Nat) : byteN (alB X) j = byteN X j := bsN_congr fun k _ => gbit_alB X _
theorem pack_alB (X : List Bool) : pack (alB X) = pack X := by
 unfold pack packN
 rw [alB_length, show (8 * ((X.length + 7) / 8) + 7) / 8 = (X.length + 7) / 8 by omega]
 congr 1
 funext j
 rw [byteN_alB]
def rb (l : List F) (i : Nat) : Bool := (gt l (i / 8)).n.testBit (i % 8)
def bitsOf (l : List F) : List Bool := (List.range (8 * l.length)).map (rb l)
theorem bitsOf_length (l : List F) : (bitsOf l).length = 8 * l.length := by simp [bitsOf]
theorem gbit_bitsOf (l : List F) (i : Nat) : gbit (bitsOf l) i = rb l i := by
 unfold gbit bitsOf
 by_cases h : i < 8 * l.length
 ·simp [List.getD, h]
 ·have : gt l (i / 8) = 0 := gt_ge (by omega)
  simp [List.getD, h, rb, this, n_zero]
theorem rb_pack (X : List Bool) (i : Nat) : rb (pack X) i = gbit X i := by
 unfold rb pack
 rw [gt_packN]
 by_cases h : i / 8 < (X.length + 7) / 8
 ·rw [if_pos h, ofN_n _ (byteN_lt _ _)]
  unfold byteN
  rw [testBit_bsN, decide_eq_true (show i % 8 < 8 by omega), Bool.true_and, show 8 * (i / 8) + i % 8 = i by omega]
 ·rw [if_neg h, n_zero, gbit_ge (by omega)]
  simp
theorem byteN_bitsOf (l : List F) (j : Nat) : byteN (bitsOf l) j = (gt l j).n := by
 unfold byteN
 have h : ∀ k, k < 8 → gbit (bitsOf l) (8 * j + k) = (gt l j).n.testBit k := fun k hk => by
  rw [gbit_bitsOf]
  unfold rb
  rw [show (8 * j + k) / 8 = j by omega, show (8 * j + k) % 8 = k by omega]
 rw [bsN_congr h, bsN_testBit]
 exact Nat.mod_eq_of_lt (gt l j).lt
theorem pack_append {X : List Bool} (h : X.length % 8 = 0) (l : List F) : pack (X ++ bitsOf l) = pack X ++ l := by
 have h1 : (pack X).length = X.length / 8 := by rw [pack_length]; omega
 refine ext_gt (by rw [pack_length, List.length_append, List.length_append, h1, bitsOf_length]; omega) fun j hj => ?_
 rw [pack_length, List.length_append, bitsOf_length] at hj
 unfold pack
 rw [gt_packN, List.length_append, bitsOf_length, if_pos hj, gt_append, packN_length]
 by_cases e : j < (X.length + 7) / 8
 ·rw [if_pos e, gt_packN, if_pos e]
  congr 1
  exact bsN_congr fun k hk => by rw [gbit_append, if_pos (by omega)]
 ·rw [if_neg e]
  refine F.ext ?_
  rw [ofN_n _ (byteN_lt _ _), ← byteN_bitsOf]
  exact bsN_congr fun k hk => by rw [gbit_append, if_neg (by omega)]; congr 1; omega
def numB (l : List F) (at_ n : Nat) : Nat := bsN (fun i => rb l (at_ + i)) n
theorem numB_lt (l : List F) (at_ n : Nat) : numB l at_ n < 2 ^ n := bsN_lt _ _
theorem numB_succ (l : List F) (at_ n : Nat) : numB l at_ (n + 1) = numB l at_ n + (if rb l (at_ + n) then 2 ^ n else 0) := rfl
theorem or_bit (a r : Nat) (b : Bool) (ha : a < 2 ^ r) : a ||| (if b then 2 ^ r else 0) = a + (if b then 2 ^ r else 0) := by
 cases b
 ·simp
 ·have h := Nat.two_pow_add_eq_or_of_lt ha 1
  rw [Nat.mul_one] at h
  simp only [if_true]
  rw [Nat.or_comm, ← h, Nat.add_comm]
end
section
set_option linter.unusedVariables false
def putL (v : Nat) : Nat → List F
 | 0 => []
 | k + 1 => putL v k ++ [ofN (v / 256 ^ k % 256)]
theorem putL_length (v k : Nat) : (putL v k).length = k := by
 induction k with
 | zero => rfl
 | succ k ih => simp [putL, ih]
theorem gt_putL (v k i : Nat) (h : i < k) : gt (putL v k) i = ofN (v / 256 ^ i % 256) := by
 induction k with
 | zero => omega
 | succ k ih =>
  unfold putL
  rw [gt_append, putL_length]
  by_cases e : i < k
  ·rw [if_pos e, ih e]
  ·rw [if_neg e]
   obtain rfl : i = k := by omega
   simp [gt]
def getL : List F → Nat
 | [] => 0
 | x :: l => x.n + 256 * getL l
theorem getL_append (l m : List F) : getL (l ++ m) = getL l + 256 ^ l.length * getL m := by
 induction l with
 | nil => simp [getL]
 | cons x l ih =>
  show x.n + 256 * getL (l ++ m) = x.n + 256 * getL l + 256 ^ (l.length + 1) * getL m
  rw [ih, Nat.pow_succ, Nat.mul_add, Nat.mul_comm (256 ^ l.length) 256, Nat.mul_assoc]
  omega
theorem getL_lt (l : List F) : getL l < 256 ^ l.length := by
 induction l with
 | nil => decide
 | cons x l ih =>
  show x.n + 256 * getL l < 256 ^ (l.length + 1)
  have := x.lt
  rw [Nat.pow_succ]
  omega
theorem getL_one (x : F) : getL [x] = x.n := by simp [getL]
theorem getL_snoc (l : List F) (x : F) : getL (l ++ [x]) = getL l + 256 ^ l.length * x.n := by rw [getL_append, getL_one]
theorem putL_getL (l : List F) : putL (getL l) l.length = l := by
 refine ext_gt (putL_length _ _) fun i hi => ?_
 rw [putL_length] at hi
 rw [gt_putL _ _ _ hi]
 have e : l = l.take i ++ ([gt l i] ++ l.drop (i + 1)) := by
  rw [gt_lt hi]
  conv => lhs; rw [← List.take_append_drop i l, List.drop_eq_getElem_cons hi]
  rfl
 have hl : (l.take i).length = i := by simp; omega
 have h1 : getL l = getL (l.take i) + 256 ^ i * ((gt l i).n + 256 * getL (l.drop (i + 1))) := by
  conv => lhs; rw [e]
  rw [getL_append, hl]
  rfl
 have h2 := getL_lt (l.take i)
 rw [hl] at h2
 refine F.ext ?_
 have hx := (gt l i).lt
 rw [h1, Nat.add_mul_div_left _ _ (Nat.pow_pos (by decide)), Nat.div_eq_of_lt h2, ofN_n _ (Nat.mod_lt _ (by decide))]
 omega
def heldN (s : Int) (m : Nat) : Nat := (min (max s 0) (m : Int)).toNat
theorem heldN_le (s : Int) (m : Nat) : heldN s m ≤ m := by unfold heldN; omega
theorem pow256 (k : Nat) : 256 ^ k = 2 ^ (8 * k) := by rw [Nat.pow_mul]
theorem or_byte (a x k : Nat) (ha : a < 256 ^ k) : a ||| x * 2 ^ (8 * k) = a + 256 ^ k * x := by
 rw [pow256] at *
 rw [Nat.mul_comm x, Nat.or_comm, ← Nat.two_pow_add_eq_or_of_lt ha x, Nat.add_comm]
theorem getL_take_succ (l : List F) (k : Nat) (h : k < l.length) : getL (l.take (k + 1)) = getL (l.take k) + 256 ^ k * (gt l k).n := by
 rw [gt_lt h, List.take_succ_eq_append_getElem h, getL_snoc]
 simp [show min k l.length = k by omega]
theorem putL_succ (v k : Nat) : putL v (k + 1) = putL v k ++ [ofN (v / 256 ^ k % 256)] := rfl
end
section
open Go.RowKit
set_option maxRecDepth 100000
set_option linter.unusedVariables false
structure WOut (p : Nat) (a a' : Option Nat) (w w' : World) : Prop where
 os : w'.os = w.os
 tape : w'.tape = w.tape
 output : w'.output = w.output
 size : w.heap.size ≤ w'.heap.size
 block : ∀ k, k < w.heap.size → k ≠ p → a ≠ some k → w'.heap[k]? = w.heap[k]?
 nw : a' = a ∨ ∀ g, a' = some g → w.heap.size ≤ g
namespace WOut
variable {p : Nat} {a b c : Option Nat} {w w' w'' : World}
theorem refl (p : Nat) (a : Option Nat) (w : World) : WOut p a a w w := ⟨rfl, rfl, rfl, Nat.le_refl _, fun _ _ _ _ => rfl, .inl rfl⟩
theorem trans (h : WOut p a b w w') (k : WOut p b c w' w'') : WOut p a c w w'' :=
 ⟨k.os.trans h.os, k.tape.trans h.tape, k.output.trans h.output, Nat.le_trans h.size k.size, fun i hi hp ha => (k.block i (Nat.lt_of_lt_of_le hi h.size) hp (fun e => by
   rcases h.nw with h1 | h1
   ·rw [h1] at e; exact ha e
   ·have := h1 i e; omega)).trans (h.block i hi hp ha), by
  rcases k.nw with h1 | h1
  ·rw [h1]; exact h.nw
  ·exact .inr fun g hg => Nat.le_trans h.size (h1 g hg)⟩
theorem drewN (h : WOut p a b w w') (q : Nat) : WOut p a b w (w'.drewN q) := ⟨h.os, h.tape, h.output, h.size, h.block, h.nw⟩
theorem setP (h : WOut p a b w w') (i : Nat) (v : Value) : WOut p a b w (w'.setCell ⟨p, i, none⟩ v) :=
 ⟨h.os, h.tape, h.output, by simpa [World.setCell] using h.size, fun k hk hp ha => (Below.heap_setCell _ _ _ _ hp).trans (h.block k hk hp ha), h.nw⟩
theorem below {B : Nat} (h : WOut p a b w w') (hB : B ≤ p) (hs : B ≤ w.heap.size) (ha : ∀ g, a = some g → B ≤ g) : Below B w w' :=
 ⟨h.os, h.tape, h.output, h.size, fun k hk => h.block k (by omega) (by omega) (fun e => by have := ha k e; omega)⟩
end WOut
structure Wr (w : World) (p : Nat) (A : Option Addr) (len cap n : Nat) (X : List Bool) : Prop where
 blk : Blk w p 45 #[.slice A len cap, .int .i64 n]
 own : w.ownsRow (p + 1) 5 1 (.slice A len cap) len (cs (pack X))
 hl : Hid (len = (X.length + 7) / 8)
 hn : Hid (n = X.length)
 few : 8 * len ≤ 1000008
theorem Wr.lt {w : World} {p : Nat} {A : Option Addr} {len cap n : Nat} {X : List Bool} (h : Wr w p A len cap n X) : p < w.heap.size := (Array.getElem?_eq_some_iff.1 h.blk).1
theorem Wr.at8 {w : World} {p : Nat} {A : Option Addr} {len cap n : Nat} {X : List Bool} (h : Wr w p A len cap n X) : n ≤ 8 * len ∧ 8 * len ≤ n + 7 := by
 have h1 := h.hl.out
 have h2 := h.hn.out
 omega
theorem Wr.drewN {w : World} {p : Nat} {A : Option Addr} {len cap n : Nat} {X : List Bool} (h : Wr w p A len cap n X) (q : Nat) : Wr (w.drewN q) p A len cap n X := ⟨h.blk, h.own, h.hl, h.hn, h.few⟩
theorem Wr.below {w w' : World} {p : Nat} {A : Option Addr} {len cap n : Nat} {X : List Bool} (h : Wr w p A len cap n X) (hb : Below w.heap.size w w') : Wr w' p A len cap n X := ⟨h.blk.below h.lt hb, own_below h.own hb, h.hl, h.hn, h.few⟩
theorem own_set_other {w : World} {base n : Nat} {e : TypeId} {v : Value} {xs : List Value} (h : w.ownsRow base e 1 v n xs) {a : Addr} (ha : a.block < base) (u : Value) : (w.setCell a u).ownsRow base e 1 v n xs := by
 refine ⟨h.1, ?_⟩
 rcases h.2 with hn | ⟨g, cap, cur, rfl, hbg, hg, rest⟩
 ·exact .inl hn
 ·exact .inr ⟨g, cap, cur, rfl, hbg, (Below.heap_setCell w a u g (by omega)).trans hg, rest⟩
theorem own_addr {w : World} {base n c : Nat} {e : TypeId} {A : Option Addr} {xs : List Value} (h : w.ownsRow base e 1 (.slice A n c) n xs) (hn : 0 < n) : ∃ g, A = some ⟨g, 0, none⟩ ∧ base ≤ g ∧ g < w.heap.size := by
 rcases h.2 with ⟨hv, h0⟩ | ⟨g, cap, cur, hv, hb, hg, _⟩
 ·omega
 ·injection hv with hv
  exact ⟨g, hv, hb, (Array.getElem?_eq_some_iff.1 hg).1⟩
theorem heldB_c (s : Int) (w : World) : Calls Tryz.prog 79 #[.int .i64 s] w fun e w' => e = .returned (.int .i64 (heldN s 32)) ∧ w = w' := by
 go_enter Tryz.func79, Tryz.ntmps79
 go_wp2
 all_goals (go_ret; exact ⟨ret_i64 (by unfold heldN; omega), rfl⟩)
theorem odd32 (v : Nat) (hv : v < 4294967296) : bits BinOp.and IntKind.u32 (v : Int) 1 = ((v % 2 : Nat) : Int) := by
 rw [show (1 : Int) = ((1 : Nat) : Int) from rfl, u32_and_nat _ _ hv (by omega), Nat.and_one_is_mod]
section
variable {w : World} {p : Nat} {A : Option Addr} {len cap n : Nat} {X : List Bool}
theorem LenB_c (h : Wr w p A len cap n X) : Calls Tryz.prog 34 #[.pointer (some ⟨p, 0, none⟩)] w fun e w' => e = .returned (.int .i64 n) ∧ w = w' := by
 have c1 := h.blk.cell 1
 simp at c1
 go_enter Tryz.func34, Tryz.ntmps34
 go_wp2
 go_ret
 exact ⟨rfl, rfl⟩
theorem DoneB_c (h : Wr w p A len cap n X) : Calls Tryz.prog 28 #[.pointer (some ⟨p, 0, none⟩)] w fun e w' => ∃ A' c', e = .returned (.slice A' len c') ∧ w'.ownsRow w.heap.size 5 1 (.slice A' len c') len (cs (pack X)) ∧ Below w.heap.size w w' := by
 have c0 := h.blk.cell 0
 simp at c0
 have hf := h.few
 have h8 := h.at8
 go_enter Tryz.func28, Tryz.ntmps28
 go_wp2_with (go_at_call 51; refine (Clone_c A _ _ _ _ (own_in h.own).row (by omega)).mono ?_; rintro e w1 ⟨A', c', rfl, hown, hbel⟩)
 go_ret
 exact ⟨A', c', rfl, hown, hbel⟩
theorem AlignB_g (hb : Blk w p 45 #[.slice A len cap, .int .i64 n]) (hlb : len ≤ 200000) : Calls Tryz.prog 170 #[.pointer (some ⟨p, 0, none⟩)] w fun e w' => e = .returned (.tuple #[]) ∧ w' = w.setCell ⟨p, 1, none⟩ (.int .i64 ((8 * len : Nat) : Int)) := by
 have c0 := hb.cell 0
 have c1 := hb.cell 1
 have f1 := hb.frozen 1
 simp at c0 c1
 have he : Hid ((((8 * len : Nat) : Nat) : Int) = 8 * (len : Int)) := by unfold Hid; omega
 clear hb
 go_enter Tryz.func170, Tryz.ntmps170
 go_wp2
 go_end0
 rw [he.out]
 exact ⟨rfl, rfl⟩
theorem AlignB_c (h : Wr w p A len cap n X) : Calls Tryz.prog 170 #[.pointer (some ⟨p, 0, none⟩)] w fun e w' => e = .returned (.tuple #[]) ∧ Wr w' p A len cap (8 * len) (alB X) ∧ WOut p (Value.slice A len cap).ownBlock (Value.slice A len cap).ownBlock w w' := by
 have hf := h.few
 have h8 := h.at8
 refine (AlignB_g h.blk (by omega)).mono ?_
 rintro e w' ⟨rfl, rfl⟩
 refine ⟨rfl, ?_, (WOut.refl _ _ _).setP 1 _⟩
 refine ⟨h.blk.set_ 1 _, ?_, ?_, ?_, by omega⟩
 ·rw [pack_alB]
  exact own_set_other h.own (by simp) _
 ·unfold Hid; rw [alB_length, h.hl.out]; omega
 ·unfold Hid; rw [alB_length, h.hl.out]
end
theorem bit_or (a r : Nat) (v : Nat) (ha : a < 2 ^ r) (hr : r < 8) (hv : v < 4294967296) : bits BinOp.or IntKind.u8 (a : Int) (IntKind.u8.wrap (IntKind.u8.wrap ((v : Int) % 2) * 2 ^ r)) = ((a + (if v.testBit 0 then 2 ^ r else 0) : Nat) : Int) := by
 have hp : 2 ^ r ≤ 2 ^ 7 := Nat.pow_le_pow_right (by decide) (by omega)
 have e7 : (2 : Nat) ^ 7 = 128 := rfl
 have h2 : v % 2 * 2 ^ r = if v.testBit 0 then 2 ^ r else 0 := by
  rw [Nat.testBit_zero]
  rcases Nat.mod_two_eq_zero_or_one v with h | h <;> simp [h]
 have h3 : ((v % 2 : Nat) : Int) * 2 ^ r = ((v % 2 * 2 ^ r : Nat) : Int) := by simp
 have h4 : v % 2 * 2 ^ r ≤ 2 ^ r := by rw [h2]; split <;> omega
 have h5 : IntKind.u8.wrap ((v : Int) % 2) = ((v % 2 : Nat) : Int) := by rw [IntKind.wrap_u8']; omega
 rw [h5, h3, IntKind.wrap_u8', show ((v % 2 * 2 ^ r : Nat) : Int) % 256 = ((v % 2 * 2 ^ r : Nat) : Int) by omega, u8_or_nat _ _ (by omega) (by omega), h2, or_bit a r _ ha]
structure Wm (w : World) (p g k cap n r : Nat) (X : List Bool) : Prop where
 blk : Blk w p 45 #[.slice (some ⟨g, 0, none⟩) (k + 1) cap, .int .i64 n]
 own : w.ownsRow (p + 1) 5 1 (.slice (some ⟨g, 0, none⟩) (k + 1) cap) (k + 1) (cs (packN X (k + 1)))
 hn : n = X.length
 hk : k = n / 8
 hr : r = n % 8
 few : n < 1000000
namespace Wm
variable {w : World} {p g k cap n r : Nat} {X : List Bool}
theorem c0 (h : Wm w p g k cap n r X) : w.cell? ⟨p, 0, none⟩ = some (.slice (some ⟨g, 0, none⟩) (k + 1) cap) := h.blk.cell 0
theorem c1 (h : Wm w p g k cap n r X) : w.cell? ⟨p, 1, none⟩ = some (.int .i64 n) := h.blk.cell 1
theorem f1 (h : Wm w p g k cap n r X) : w.frozen? ⟨p, 1, none⟩ = false := h.blk.frozen 1
theorem f2 (h : Wm w p g k cap n r X) : w.frozen? ⟨g, k, none⟩ = false := h.own.frozenAt k
theorem ne (h : Wm w p g k cap n r X) : g ≠ p := by have := (h.own.lt g rfl).1; omega
theorem km (h : Wm w p g k cap n r X) : k ≤ 200000 := by have := h.hk; have := h.few; omega
theorem r8 (h : Wm w p g k cap n r X) : r < 8 := by have := h.hr; omega
theorem rem (h : Wm w p g k cap n r X) : (n : Int).tmod 8 = (r : Int) := by have := h.hr; rw [Int.tmod_eq_emod_of_nonneg (by omega)]; omega
theorem c2 (h : Wm w p g k cap n r X) : w.cell? ⟨g, k, none⟩ = some (.int .u8 (byteN X k)) := by
 have h2 := h.own.cellAt k (by omega)
 rw [cs_at (by rw [packN_length]; omega), gt_packN, if_pos (by omega), ofN_n _ (byteN_lt _ _)] at h2
 exact h2
theorem last (h : Wm w p g k cap n r X) : byteN X k < 2 ^ r := by
 have h1 := byteN_last X
 rw [← h.hn, ← h.hk, ← h.hr] at h1
 exact h1
theorem val (h : Wm w p g k cap n r X) (v : Nat) (hv : v < 4294967296) : bits BinOp.or IntKind.u8 (byteN X k : Int) (IntKind.u8.wrap (IntKind.u8.wrap ((v : Int) % 2) * 2 ^ r)) = ((ofN (byteN X k + (if v.testBit 0 then 2 ^ r else 0))).n : Int) := by
 have hp : 2 ^ r ≤ 2 ^ 7 := Nat.pow_le_pow_right (by decide) (by have := h.r8; omega)
 have e7 : (2 : Nat) ^ 7 = 128 := rfl
 have h2 := h.last
 rw [bit_or _ _ _ h.last h.r8 hv, ofN_n _ (by split <;> omega)]
theorem fin (h : Wm w p g k cap n r X) (v : Nat) : Wr (((w.setCell ⟨g, k, none⟩ (.int .u8 (ofN (byteN X k + (if v.testBit 0 then 2 ^ r else 0))).n)).setCell ⟨p, 1, none⟩ (.int .i64 (n + 1)))) p (some ⟨g, 0, none⟩) (k + 1) cap (n + 1) (X ++ [v.testBit 0]) := by
 have e1 := h.hn
 have e2 := h.hk
 have e3 := h.hr
 have h1 := (h.own.stored k (.int .u8 (ofN (byteN X k + (if v.testBit 0 then 2 ^ r else 0))).n)).1
 rw [cs_set, show (packN X (k + 1)).set k (ofN (byteN X k + (if v.testBit 0 then 2 ^ r else 0))) = pack (X ++ [v.testBit 0]) by rw [pack_snoc, packN_snoc, e2, e3, e1]] at h1
 refine ⟨?_, own_set_other h1 (by simp) _, ?_, ?_, ?_⟩
 ·exact (h.blk.setOther (a := ⟨g, k, none⟩) h.ne.symm _).set_ 1 (.int .i64 ((n : Int) + 1))
 ·unfold Hid; rw [List.length_append, List.length_singleton]; omega
 ·unfold Hid; rw [List.length_append, List.length_singleton]; omega
 ·have := h.few; omega
end Wm
theorem WOut.setG {p g : Nat} {a : Option Nat} {w w' : World} (h : WOut p a (some g) w w') (i : Nat) (v : Value) : WOut p a (some g) w (w'.setCell ⟨g, i, none⟩ v) := by
 refine h.trans ⟨rfl, rfl, rfl, by simp [World.setCell], fun k hk hp ha => Below.heap_setCell _ _ _ _ (fun e => ha (by simp at e; rw [e])), .inl rfl⟩
set_option maxHeartbeats 1000000 in
theorem bit_in {w : World} {p : Nat} {A : Option Addr} {len cap n : Nat} {X : List Bool} (h : Wr w p A len cap n X) (v : Nat) (hv : v < 4294967296) (hroom : n < 1000000) (hna : n < 8 * len) :
  Calls Tryz.prog 80 #[.pointer (some ⟨p, 0, none⟩), .int .u32 v] w fun e w' => e = .returned (.tuple #[]) ∧ ∃ A' len' cap', Wr w' p A' len' cap' (n + 1) (X ++ [v.testBit 0]) ∧ WOut p (Value.slice A len cap).ownBlock (Value.slice A' len' cap').ownBlock w w' := by
 have c0 := h.blk.cell 0
 have c1 := h.blk.cell 1
 simp at c0 c1
 have h8 := h.at8
 obtain ⟨k, rfl⟩ : ∃ k, len = k + 1 := ⟨len - 1, by omega⟩
 obtain ⟨r, hr⟩ : ∃ r, r = n % 8 := ⟨_, rfl⟩
 obtain ⟨g, rfl, hg1, hg2⟩ := own_addr h.own (by omega)
 have hneq : ((n : Int) == 8 * ((k + 1 : Nat) : Int)) = false := by
  rw [Bool.eq_false_iff, ne_eq, beq_iff_eq]
  omega
 have hM0 : Wm w p g k cap n r X := by
  refine ⟨h.blk, ?_, h.hn.out, by omega, hr, hroom⟩
  have h1 := h.own
  rw [show pack X = packN X (k + 1) by unfold pack; rw [h.hl.out]] at h1
  exact h1
 have HM := Lib.hid hM0
 have hkb : k ≤ 200000 := by omega
 clear hr h8 hM0 h hna
 go_enter Tryz.func80, Tryz.ntmps80
 go_wp2
 go_quiet (fail)
 go_wp2
 have hM : Wm (w.drewN nq) p g k cap n r X := ⟨HM.out.blk, HM.out.own, HM.out.hn, HM.out.hk, HM.out.hr, HM.out.few⟩
 have hO : WOut p (Value.slice (some ⟨g, 0, none⟩) (k + 1) cap).ownBlock (some g) w (w.drewN nq) := (WOut.refl _ _ _).drewN nq
 clear c0 c1 HM
 generalize w.drewN nq = W at *
 ·have c0 := hM.c0
  have c1 := hM.c1
  have f1 := hM.f1
  have hc2 := hM.c2
  have hfz := hM.f2
  have hval := hM.val v hv
  have hfin := hM.fin v
  obtain ⟨b, hb⟩ : ∃ b, b = v.testBit 0 := ⟨_, rfl⟩
  obtain ⟨z, hz⟩ : ∃ z : F, z = ofN (byteN X k + (if v.testBit 0 then 2 ^ r else 0)) := ⟨_, rfl⟩
  rw [← hz, ← hb] at hfin
  rw [← hz] at hval
  have HV := Lib.hid hval
  have HF := Lib.hid hfin
  have HB := Lib.hid hb
  clear hval hfin hb hz
  have hgp := hM.ne
  have hpg := hM.ne.symm
  have hrem := hM.rem
  have hr8 := hM.r8
  have hkm := hM.km
  have hw1 : IntKind.i64.wrap (k : Int) = (k : Int) := IntWalk.i64_in _ (by omega)
  have hw2 : IntKind.i64.wrap ((k : Int) + 1 - 1) = (k : Int) := (IntWalk.i64_in _ (by omega)).trans (by omega)
  have hkl : (k : Int) < (k : Int) + 1 := by omega
  have hkz : (0 : Int) ≤ (k : Int) := by omega
  have hodd := odd32 v hv
  have hn6 := hM.few
  clear hM
  refine wp_region_still_tail 22 (by kernel_rfl) (by kernel_rfl) ?_
  simp only [List.take_succ_cons, List.take_zero, List.drop_succ_cons, List.drop_zero]
  change wpStill _ _ (World.drew W) (fun a' => wpList _ _ _ _ a' (World.drew W)) _ _
  repeat still_step
  refine wpStill_nil ?_
  rw [HV.out]
  go_wp2
  go_end0
  rw [← HB.out]
  exact ⟨rfl, some ⟨g, 0, none⟩, k + 1, cap, HF.out.drewN 1, ((hO.setG _ _).setP 1 _).drewN 1⟩
set_option maxHeartbeats 1000000 in
theorem bit_new {w : World} {p : Nat} {A : Option Addr} {len cap n : Nat} {X : List Bool} (h : Wr w p A len cap n X) (v : Nat) (hv : v < 4294967296) (hroom : n < 1000000) (hna : n = 8 * len) :
  Calls Tryz.prog 80 #[.pointer (some ⟨p, 0, none⟩), .int .u32 v] w fun e w' => e = .returned (.tuple #[]) ∧ ∃ A' len' cap', Wr w' p A' len' cap' (n + 1) (X ++ [v.testBit 0]) ∧ WOut p (Value.slice A len cap).ownBlock (Value.slice A' len' cap').ownBlock w w' := by
 obtain ⟨i0, hi, hz0, hz1, hz2⟩ := info_parts info_u8
 have c0 := h.blk.cell 0
 have c1 := h.blk.cell 1
 simp at c0 c1
 have hpl := h.lt
 have hneq : ((n : Int) == 8 * (len : Int)) = true := by
  rw [beq_iff_eq]
  omega
 have hlb : len ≤ 200000 := by omega
 have H := Lib.hid h
 have HNA := Lib.hid hna
 clear h hna
 go_enter Tryz.func80, Tryz.ntmps80
 go_wp2
 go_quiet (fail)
 have hW : Wr (w.drewN nq) p A len cap n X := H.out.drewN nq
 have hO0 : WOut p (Value.slice A len cap).ownBlock (Value.slice A len cap).ownBlock w (w.drewN nq) := (WOut.refl _ _ _).drewN nq
 clear c0 c1
 generalize w.drewN nq = W at *
 have c0 := hW.blk.cell 0
 have c1 := hW.blk.cell 1
 simp at c0 c1
 have HW := Lib.hid hW
 have hpW := hW.lt
 clear hW hpl
 go_wp2_with (at_builtin; refine wpList_append_lies _ rfl (.tmp 19) (.tmp 20) 22 rfl (p + 1) 5 i0 (.int .u8 0) 1 1 Tryz.underlying22 hi hz0 hz1 hz2 rfl (by decide) (.slice A len cap) len (cs (pack X)) rfl (HW.out.own.alloc _) ⟨W.heap.size, 0, none⟩ 1 1 [.int .u8 0] rfl rfl (one_cell W _ _) (by intro u hu; simp at hu; subst hu; rfl) (by omega) (by unfold maxLen; omega) (by omega) (by simp; omega) (W.heap.size + 1) (by simp) ?_; intro g cap' w1 hown1 hg1 hat1 hlt1; have hblk1 := Blk.kept (HW.out.blk.below HW.out.lt ((Below.refl _ W).alloc (Nat.le_refl _) (.cells #[.int .u8 0] 5))) hg1 ⟨by simp; omega, fun e => by have := (HW.out.own.lt p e).1; omega⟩; have d0 := hblk1.cell 0; have d1 := hblk1.cell 1; have g0 := hblk1.frozen 0; simp at d0 d1)
 go_wp2
 obtain ⟨r, hr⟩ : ∃ r, r = n % 8 := ⟨_, rfl⟩
 have hM : Wm (w1.setCell ⟨p, 0, none⟩ (.slice (some ⟨g, 0, none⟩) (len + 1) cap')) p g len cap' n r X := by
  refine ⟨hblk1.set_ 0 _, own_set_other ?_ (by simp) _, HW.out.hn.out, ?_, ?_, hroom⟩
  ·rw [packN_succ_of (by rw [← HW.out.hn.out, HNA.out]; omega), cs_append]
   rw [show packN X len = pack X by unfold pack; rw [HW.out.hl.out]]
   exact hown1
  ·have := HNA.out; omega
  ·exact hr
 have hO : WOut p (Value.slice A len cap).ownBlock (some g) w (w1.setCell ⟨p, 0, none⟩ (.slice (some ⟨g, 0, none⟩) (len + 1) cap')) := by
  refine WOut.setP (hO0.trans ⟨hg1.os, hg1.tape, hg1.output, ?_, fun k hk hp ha => ?_, ?_⟩) 0 _
  ·have := hg1.size; simp at this; omega
  ·rw [hg1.block k (by simp; omega) (fun e => ha e.symm)]
   exact Below.heap_alloc _ _ _ hk
  ·rcases hat1 with h1 | h1
   ·exact .inl h1.symm
   ·exact .inr fun x hx => by cases hx; omega
 clear hr hO0 hown1 hg1 hat1 hlt1 hblk1 g0 d0 d1 c0 c1 HNA hneq HW H
 generalize w1.setCell ⟨p, 0, none⟩ (.slice (some ⟨g, 0, none⟩) (len + 1) cap') = W2 at *
 ·have c0 := hM.c0
  have c1 := hM.c1
  have f1 := hM.f1
  have hc2 := hM.c2
  have hfz := hM.f2
  have hval := hM.val v hv
  have hfin := hM.fin v
  obtain ⟨b, hb⟩ : ∃ b, b = v.testBit 0 := ⟨_, rfl⟩
  obtain ⟨z, hz⟩ : ∃ z : F, z = ofN (byteN X len + (if v.testBit 0 then 2 ^ r else 0)) := ⟨_, rfl⟩
  rw [← hz, ← hb] at hfin
  rw [← hz] at hval
  have HV := Lib.hid hval
  have HF := Lib.hid hfin
  have HB := Lib.hid hb
  clear hval hfin hb hz
  have hgp := hM.ne
  have hpg := hM.ne.symm
  have hrem := hM.rem
  have hr8 := hM.r8
  have hkm := hM.km
  have hw1 : IntKind.i64.wrap (len : Int) = (len : Int) := IntWalk.i64_in _ (by omega)
  have hw2 : IntKind.i64.wrap ((len : Int) + 1 - 1) = (len : Int) := (IntWalk.i64_in _ (by omega)).trans (by omega)
  have hkl : (len : Int) < (len : Int) + 1 := by omega
  have hkz : (0 : Int) ≤ (len : Int) := by omega
  have hodd := odd32 v hv
  have hn6 := hM.few
  clear hM
  refine wp_region_still_tail 22 (by kernel_rfl) (by kernel_rfl) ?_
  simp only [List.take_succ_cons, List.take_zero, List.drop_succ_cons, List.drop_zero]
  change wpStill _ _ (World.drew W2) (fun a' => wpList _ _ _ _ a' (World.drew W2)) _ _
  repeat still_step
  refine wpStill_nil ?_
  rw [HV.out]
  go_wp2
  go_end0
  rw [← HB.out]
  exact ⟨rfl, some ⟨g, 0, none⟩, len + 1, cap', HF.out.drewN 1, ((hO.setG _ _).setP 1 _).drewN 1⟩
theorem bit_c {w : World} {p : Nat} {A : Option Addr} {len cap n : Nat} {X : List Bool} (h : Wr w p A len cap n X) (v : Nat) (hv : v < 4294967296) (hroom : n < 1000000) :
  Calls Tryz.prog 80 #[.pointer (some ⟨p, 0, none⟩), .int .u32 v] w fun e w' => e = .returned (.tuple #[]) ∧ ∃ A' len' cap', Wr w' p A' len' cap' (n + 1) (X ++ [v.testBit 0]) ∧ WOut p (Value.slice A len cap).ownBlock (Value.slice A' len' cap').ownBlock w w' := by
 have h8 := h.at8
 by_cases e : n = 8 * len
 ·exact bit_new h v hv hroom e
 ·exact bit_in h v hv hroom (by omega)
end
section
open Go.RowKit
set_option maxRecDepth 100000
set_option linter.unusedVariables false
theorem putB_succ (v j : Nat) : putB v (j + 1) = putB v j ++ [v.testBit j] := range_map_succ _ _
def codeP (v k j : Nat) : List Bool := (List.range j).map fun i => v.testBit (k - 1 - i)
theorem codeP_succ (v k j : Nat) : codeP v k (j + 1) = codeP v k j ++ [v.testBit (k - 1 - j)] := range_map_succ _ _
theorem testBit_shift (v j : Nat) : (v / 2 ^ j).testBit 0 = v.testBit j := by
 rw [Nat.testBit_eq_decide_div_mod_eq, Nat.testBit_eq_decide_div_mod_eq, Nat.pow_zero, Nat.div_one]
section
variable {w : World} {p : Nat} {A : Option Addr} {len cap n : Nat} {X : List Bool}
set_option maxHeartbeats 1000000 in
theorem PutB_c (h : Wr w p A len cap n X) (v : Nat) (hv : v < 4294967296) (s : Int) (hroom : n + 32 ≤ 1000000) :
  Calls Tryz.prog 62 #[.pointer (some ⟨p, 0, none⟩), .int .u32 v, .int .i64 s] w fun e w' => e = .returned (.tuple #[]) ∧ ∃ A' len' cap', Wr w' p A' len' cap' (n + heldN s 32) (X ++ putB v (heldN s 32)) ∧ WOut p (Value.slice A len cap).ownBlock (Value.slice A' len' cap').ownBlock w w' := by
 have hk := heldN_le s 32
 have hheld := heldB_c s
 generalize heldN s 32 = k at *
 have HH := Lib.hid hheld
 have H := Lib.hid h
 clear hheld h
 go_enter Tryz.func62, Tryz.ntmps62
 go_wp2_with (go_at_call 79; refine (HH.out _).mono ?_; rintro e w' ⟨rfl, rfl⟩)
 go_loopw [9] (fun i wr => ∃ (j len' cap' : Nat) (A' : Option Addr), j ≤ k ∧ i = .int .i64 j ∧ Wr wr p A' len' cap' (n + j) (X ++ putB v j) ∧ WOut p (Value.slice A len cap).ownBlock (Value.slice A' len' cap').ownBlock w wr) (fun i _ => k - (intOf i).toNat)
 case atStart => exact ⟨0, len, cap, A, by omega, rfl, by rw [show putB v 0 = [] from rfl, List.append_nil]; exact H.out, WOut.refl _ _ _⟩
 case round =>
  obtain ⟨j, len', cap', A', hj, rfl, hW, hO⟩ := hrel
  by_cases hlt : j < k
  ·have hjk : (j : Int) < k := by omega
   have hj32 : j < 32 := by omega
   have hbit := bit_c hW (v / 2 ^ j) (Nat.lt_of_le_of_lt (Nat.div_le_self _ _) hv) (by omega)
   rw [show ((v / 2 ^ j : Nat) : Int) = (v : Int) / 2 ^ j by simp, testBit_shift, List.append_assoc, ← putB_succ] at hbit
   have HB := Lib.hid hbit
   clear hbit
   go_wp2_with (go_at_call 80; refine HB.out.mono ?_; rintro e w2 ⟨rfl, A2, len2, cap2, hW2, hO2⟩)
   go_roundw
   case rel => exact ⟨j + 1, len2, cap2, A2, by omega, by go_num, hW2, hO.trans hO2⟩
   case measure => simp [intOf]; omega
  ·obtain rfl : j = k := by omega
   go_wp2
   go_end0
   exact ⟨rfl, A', len', cap', hW, hO⟩
set_option maxHeartbeats 1000000 in
theorem CodeB_c (h : Wr w p A len cap n X) (v : Nat) (hv : v < 4294967296) (s : Int) (hroom : n + 32 ≤ 1000000) :
  Calls Tryz.prog 33 #[.pointer (some ⟨p, 0, none⟩), .int .u32 v, .int .i64 s] w fun e w' => e = .returned (.tuple #[]) ∧ ∃ A' len' cap', Wr w' p A' len' cap' (n + heldN s 32) (X ++ codeB v (heldN s 32)) ∧ WOut p (Value.slice A len cap).ownBlock (Value.slice A' len' cap').ownBlock w w' := by
 have hk := heldN_le s 32
 have hheld := heldB_c s
 generalize heldN s 32 = k at *
 have HH := Lib.hid hheld
 have H := Lib.hid h
 clear hheld h
 go_enter Tryz.func33, Tryz.ntmps33
 go_wp2_with (go_at_call 79; refine (HH.out _).mono ?_; rintro e w' ⟨rfl, rfl⟩)
 go_loopw [10] (fun i wr => ∃ (j len' cap' : Nat) (A' : Option Addr), j ≤ k ∧ i = .int .i64 j ∧ Wr wr p A' len' cap' (n + j) (X ++ codeP v k j) ∧ WOut p (Value.slice A len cap).ownBlock (Value.slice A' len' cap').ownBlock w wr) (fun i _ => k - (intOf i).toNat)
 case atStart => exact ⟨0, len, cap, A, by omega, rfl, by rw [show codeP v k 0 = [] from rfl, List.append_nil]; exact H.out, WOut.refl _ _ _⟩
 case round =>
  obtain ⟨j, len', cap', A', hj, rfl, hW, hO⟩ := hrel
  by_cases hlt : j < k
  ·have hjk : (j : Int) < k := by omega
   have hj32 : j < 32 := by omega
   have hbit := bit_c hW (v / 2 ^ (k - 1 - j)) (Nat.lt_of_le_of_lt (Nat.div_le_self _ _) hv) (by omega)
   rw [show ((v / 2 ^ (k - 1 - j) : Nat) : Int) = (v : Int) / 2 ^ (k - 1 - j) by simp, testBit_shift, List.append_assoc, ← codeP_succ] at hbit
   have HB := Lib.hid hbit
   clear hbit
   go_wp2_with (go_at_call 80; refine HB.out.mono ?_; rintro e w2 ⟨rfl, A2, len2, cap2, hW2, hO2⟩)
   go_roundw
   case rel => exact ⟨j + 1, len2, cap2, A2, by omega, by go_num, hW2, hO.trans hO2⟩
   case measure => simp [intOf]; omega
  ·obtain rfl : j = k := by omega
   go_wp2
   go_end0
   exact ⟨rfl, A', len', cap', hW, hO⟩
set_option maxHeartbeats 1000000 in
theorem BytesB_none (h : Wr w p A len cap n X) (B : Option Addr) (cb : Nat) :
  Calls Tryz.prog 141 #[.pointer (some ⟨p, 0, none⟩), .slice B 0 cb] w fun e w' => e = .returned (.tuple #[]) ∧ ∃ A' len' cap', Wr w' p A' len' cap' (8 * len) (alB X) ∧ WOut p (Value.slice A len cap).ownBlock (Value.slice A' len' cap').ownBlock w w' := by
 have c0 := h.blk.cell 0
 have f0 := h.blk.frozen 0
 simp at c0
 have hcap := own_cap h.own
 have hb2 := h.blk.set_ 0 (.slice A len cap)
 have hW : Wr (w.setCell ⟨p, 0, none⟩ (.slice A len cap)) p A len cap n X := ⟨hb2, own_set_other h.own (by simp) _, h.hl, h.hn, h.few⟩
 have hO : WOut p (Value.slice A len cap).ownBlock (Value.slice A len cap).ownBlock w (w.setCell ⟨p, 0, none⟩ (.slice A len cap)) := (WOut.refl _ _ _).setP 0 _
 have HA := Lib.hid (AlignB_c hW)
 have HO := Lib.hid hO
 clear hb2 hW hO h
 have hs0 : ∀ (a : Addr) (V : Value) (w : World), Sem.run Tryz.prog ((fun _ => V) <$> storeCells (a.add len) ([] : List Value)) w = .ok V w := fun a V w => rfl
 cases A with
 | none =>
  cases B with
  | none =>
   go_enter Tryz.func141, Tryz.ntmps141
   go_wp2_with (go_at_call 170; refine HA.out.mono ?_; rintro e w' ⟨rfl, hW2, hO2⟩)
   go_end0
   exact ⟨rfl, none, len, cap, hW2, HO.out.trans hO2⟩
  | some b =>
   go_enter Tryz.func141, Tryz.ntmps141
   go_wp2_with (go_at_call 170; refine HA.out.mono ?_; rintro e w' ⟨rfl, hW2, hO2⟩)
   go_end0
   exact ⟨rfl, none, len, cap, hW2, HO.out.trans hO2⟩
 | some a =>
  cases B with
  | none =>
   go_enter Tryz.func141, Tryz.ntmps141
   go_wp2_with (go_at_call 170; refine HA.out.mono ?_; rintro e w' ⟨rfl, hW2, hO2⟩)
   go_end0
   exact ⟨rfl, some a, len, cap, hW2, HO.out.trans hO2⟩
  | some b =>
   go_enter Tryz.func141, Tryz.ntmps141
   go_wp2_with (go_at_call 170; refine HA.out.mono ?_; rintro e w' ⟨rfl, hW2, hO2⟩)
   go_end0
   exact ⟨rfl, some a, len, cap, hW2, HO.out.trans hO2⟩
set_option maxHeartbeats 1000000 in
theorem BytesB_some (h : Wr w p A len cap n X) (B : Addr) (m cb : Nat) (l : List F) (hB : Row w (some B) m l) (hm : 0 < m) (hroom : n + 8 * m ≤ 1000000) :
  Calls Tryz.prog 141 #[.pointer (some ⟨p, 0, none⟩), .slice (some B) m cb] w fun e w' => e = .returned (.tuple #[]) ∧ ∃ A' len' cap', Wr w' p A' len' cap' (8 * len + 8 * m) (alB X ++ bitsOf l) ∧ WOut p (Value.slice A len cap).ownBlock (Value.slice A' len' cap').ownBlock w w' := by
 obtain ⟨i0, hi, hz0, hz1, hz2⟩ := info_parts info_u8
 have c0 := h.blk.cell 0
 have f0 := h.blk.frozen 0
 simp at c0
 have h8 := h.at8
 have hpl := h.lt
 have HL := Lib.hid hB.len
 have HC := Lib.hid hB.cells
 have H := Lib.hid h
 clear h hB
 go_enter Tryz.func141, Tryz.ntmps141
 go_wp2_with (at_builtin; refine wpList_append_lies _ rfl (.tmp 8) (.tmp 9) 22 rfl (p + 1) 5 i0 (.int .u8 0) 1 1 Tryz.underlying22 hi hz0 hz1 hz2 rfl (by decide) (.slice A len cap) len (cs (pack X)) rfl H.out.own B m cb (cs l) rfl (by rw [cs_length, HL.out, Nat.mul_one]) HC.out (cs_one _) hm (by unfold maxLen; omega) (by omega) (by omega) w.heap.size rfl ?_; intro g cap' w1 hown1 hg1 hat1 hlt1; have hblk1 := Blk.kept H.out.blk hg1 ⟨hpl, fun e => by have := (H.out.own.lt p e).1; omega⟩; have d0 := hblk1.cell 0; have g0 := hblk1.frozen 0; simp at d0)
 have hb2 := hblk1.set_ 0 (.slice (some ⟨g, 0, none⟩) (len + m) cap')
 have hown2 : (w1.setCell ⟨p, 0, none⟩ (.slice (some ⟨g, 0, none⟩) (len + m) cap')).ownsRow (p + 1) 5 1 (.slice (some ⟨g, 0, none⟩) (len + m) cap') (len + m) (cs (pack X) ++ cs l) := own_set_other hown1 (by simp) _
 have hO : WOut p (Value.slice A len cap).ownBlock (some g) w (w1.setCell ⟨p, 0, none⟩ (.slice (some ⟨g, 0, none⟩) (len + m) cap')) := by
  refine WOut.setP ⟨hg1.os, hg1.tape, hg1.output, hg1.size, fun k hk hp ha => hg1.block k hk (fun e => ha e.symm), ?_⟩ 0 _
  rcases hat1 with h1 | h1
  ·exact .inl h1.symm
  ·exact .inr fun x hx => by cases hx; omega
 clear hown1 hg1 hat1 hlt1 hblk1 g0 d0
 have hal := Lib.hid (AlignB_g (A := some ⟨g, 0, none⟩) (len := len + m) (cap := cap') (n := n) hb2 (by omega))
 go_wp2_with (go_at_call 170; refine hal.out.mono ?_; rintro e w' ⟨rfl, rfl⟩)
 go_end0
 refine ⟨rfl, some ⟨g, 0, none⟩, len + m, cap', ⟨?_, own_set_other ?_ (by simp) _, ?_, ?_, by omega⟩, hO.setP 1 _⟩
 ·rw [show 8 * len + 8 * m = 8 * (len + m) by omega]
  exact hb2.set_ 1 _
 ·rw [pack_append (by rw [alB_length]; omega), pack_alB, cs_append]
  exact hown2
 ·unfold Hid; rw [List.length_append, alB_length, bitsOf_length, HL.out, H.out.hl.out]; omega
 ·unfold Hid; rw [List.length_append, alB_length, bitsOf_length, HL.out, H.out.hl.out]
theorem BytesB_c (h : Wr w p A len cap n X) (B : Option Addr) (m cb : Nat) (l : List F) (hB : Row w B m l) (hroom : n + 8 * m ≤ 1000000) :
  Calls Tryz.prog 141 #[.pointer (some ⟨p, 0, none⟩), .slice B m cb] w fun e w' => e = .returned (.tuple #[]) ∧ ∃ A' len' cap', Wr w' p A' len' cap' (8 * len + 8 * m) (alB X ++ bitsOf l) ∧ WOut p (Value.slice A len cap).ownBlock (Value.slice A' len' cap').ownBlock w w' := by
 rcases Nat.eq_zero_or_pos m with rfl | hm
 ·obtain rfl : l = [] := List.eq_nil_of_length_eq_zero hB.len
  rw [show bitsOf [] = [] from rfl, List.append_nil]
  exact BytesB_none h B cb
 ·obtain ⟨b, o, rfl, _⟩ := hB.at_ hm
  exact BytesB_some h _ m cb l hB hm hroom
end
end
section
open Go.RowKit
set_option maxRecDepth 100000
set_option linter.unusedVariables false
theorem val_u32 {a b : Int} (h : a = b) : Value.int .u32 a = .int .u32 b := by rw [h]
structure RdB (w : World) (p : Nat) (A : Option Addr) (len cap : Nat) (l : List F) (at_ : Nat) : Prop where
 blk : Blk w p 130 #[.slice A len cap, .int .i64 at_]
 row : RowIn w A len cap l
 le : at_ ≤ 8 * len
 ne : ∀ b o, A = some ⟨b, o, none⟩ → b ≠ p
 few : len ≤ 200000
theorem RdB.lt {w : World} {p : Nat} {A : Option Addr} {len cap : Nat} {l : List F} {at_ : Nat} (h : RdB w p A len cap l at_) : p < w.heap.size := (Array.getElem?_eq_some_iff.1 h.blk).1
theorem RdB.drewN {w : World} {p : Nat} {A : Option Addr} {len cap : Nat} {l : List F} {at_ : Nat} (h : RdB w p A len cap l at_) (q : Nat) : RdB (w.drewN q) p A len cap l at_ := ⟨h.blk, h.row.drewN q, h.le, h.ne, h.few⟩
theorem RdB.below {w w' : World} {p : Nat} {A : Option Addr} {len cap : Nat} {l : List F} {at_ : Nat} (h : RdB w p A len cap l at_) (hb : Below w.heap.size w w') : RdB w' p A len cap l at_ := ⟨h.blk.below h.lt hb, h.row.below hb, h.le, h.ne, h.few⟩
theorem RdB.set1 {w : World} {p : Nat} {A : Option Addr} {len cap : Nat} {l : List F} {at_ m : Nat} (h : RdB w p A len cap l at_) (hm : m ≤ 8 * len) : RdB (w.setCell ⟨p, 1, none⟩ (.int .i64 m)) p A len cap l m :=
 ⟨h.blk.set_ 1 (.int .i64 m), ⟨h.row.row.setOther h.ne _, h.row.le, h.row.max⟩, hm, h.ne, h.few⟩
section
variable {w : World} {p : Nat} {A : Option Addr} {len cap : Nat} {l : List F} {at_ : Nat}
theorem AtB_c (h : RdB w p A len cap l at_) : Calls Tryz.prog 54 #[.pointer (some ⟨p, 0, none⟩)] w fun e w' => e = .returned (.int .i64 at_) ∧ w = w' := by
 have c1 := h.blk.cell 1
 simp at c1
 go_enter Tryz.func54, Tryz.ntmps54
 go_wp2
 go_ret
 exact ⟨rfl, rfl⟩
def upB (n : Nat) : Nat := (n + 7) / 8 * 8
theorem AlignR_c (h : RdB w p A len cap l at_) : Calls Tryz.prog 180 #[.pointer (some ⟨p, 0, none⟩)] w fun e w' => e = .returned (.tuple #[]) ∧ RdB w' p A len cap l (upB at_) ∧ Out p (p + 1) w w' := by
 have c1 := h.blk.cell 1
 have f1 := h.blk.frozen 1
 simp at c1
 have hle := h.le
 have hf := h.few
 have hb : at_ ≤ 1600000 := by omega
 have hR := h.set1 (m := upB at_) (by unfold upB; omega)
 have HR := Lib.hid hR
 have hq : ((at_ : Int) + 7).tdiv 8 = (((at_ + 7) / 8 : Nat) : Int) := by rw [Int.tdiv_eq_ediv_of_nonneg (by omega)]; omega
 have he : Hid ((upB at_ : Int) = (((at_ + 7) / 8 : Nat) : Int) * 8) := by unfold Hid upB; omega
 have hqb : (at_ + 7) / 8 ≤ 300000 := by omega
 generalize (at_ + 7) / 8 = qq at *
 clear hR h hle hf
 go_enter Tryz.func180, Tryz.ntmps180
 go_wp2
 go_end0
 rw [← he.out]
 exact ⟨rfl, HR.out, (Out.refl _ _ _).setCell 1 _⟩
theorem get_step (l : List F) (at_ j : Nat) (hj : j < 32) : bits BinOp.or IntKind.u32 (numB l at_ j : Int) (bits BinOp.and IntKind.u8 ((gt l ((at_ + j) / 8)).n / 2 ^ ((at_ + j) % 8)) 1 % 4294967296 * 2 ^ j % 4294967296) = ((numB l at_ (j + 1) : Nat) : Int) := by
 have hx := (gt l ((at_ + j) / 8)).lt
 have h1 : ((gt l ((at_ + j) / 8)).n : Int) / 2 ^ ((at_ + j) % 8) = (((gt l ((at_ + j) / 8)).n / 2 ^ ((at_ + j) % 8) : Nat) : Int) := by simp
 have h2 : (gt l ((at_ + j) / 8)).n / 2 ^ ((at_ + j) % 8) < 256 := Nat.lt_of_le_of_lt (Nat.div_le_self _ _) hx
 have h3 : (gt l ((at_ + j) / 8)).n / 2 ^ ((at_ + j) % 8) % 2 = if rb l (at_ + j) then 1 else 0 := by
  unfold rb
  rw [Nat.testBit_eq_decide_div_mod_eq]
  rcases Nat.mod_two_eq_zero_or_one ((gt l ((at_ + j) / 8)).n / 2 ^ ((at_ + j) % 8)) with h | h <;> simp [h]
 have hp : 2 ^ j ≤ 2 ^ 31 := Nat.pow_le_pow_right (by decide) (by omega)
 have e31 : (2 : Nat) ^ 31 = 2147483648 := rfl
 have hn := numB_lt l at_ j
 have h4 : (((if rb l (at_ + j) then 1 else 0 : Nat) : Int) % 4294967296 * 2 ^ j % 4294967296) = ((if rb l (at_ + j) then 2 ^ j else 0 : Nat) : Int) := by
  cases rb l (at_ + j)
  ·simp
  ·have e : ((2 : Int) ^ j) = ((2 ^ j : Nat) : Int) := by simp
   simp only [if_true]
   rw [e]
   omega
 rw [h1, show (1 : Int) = ((1 : Nat) : Int) from rfl, u8_and_nat _ _ h2 (by omega), Nat.and_one_is_mod, h3, h4, u32_or_nat _ _ (by omega) (by split <;> omega), numB_succ, or_bit _ _ _ hn]
set_option maxHeartbeats 1000000 in
theorem GetB_ok (h : RdB w p A len cap l at_) (s : Int) (hn : at_ + heldN s 32 ≤ 8 * len) :
  Calls Tryz.prog 125 #[.pointer (some ⟨p, 0, none⟩), .int .i64 s] w fun e w' => e = .returned (.tuple #[.int .u32 (numB l at_ (heldN s 32)), .bool true]) ∧ RdB w' p A len cap l (at_ + heldN s 32) ∧ Out p (p + 1) w w' := by
 have c0 := h.blk.cell 0
 have c1 := h.blk.cell 1
 have f1 := h.blk.frozen 1
 simp at c0 c1
 have hle := h.le
 have hf := h.few
 have hk := heldN_le s 32
 have hheld := heldB_c s
 generalize heldN s 32 = k at *
 have HH := Lib.hid hheld
 have hsub : IntKind.i64.wrap (8 * (len : Int) - (at_ : Int)) = ((8 * len - at_ : Nat) : Int) := (IntWalk.i64_in _ (by omega)).trans (by omega)
 have hgt : decide (8 * len - at_ < k) = false := decide_eq_false (by omega)
 clear hheld
 go_enter Tryz.func125, Tryz.ntmps125
 go_wp2_with (go_at_call 79; refine (HH.out _).mono ?_; rintro e w' ⟨rfl, rfl⟩)
 go_quiet (fail)
 go_wp2
 go_loop [6, 25] (fun v i => ∃ j : Nat, j ≤ k ∧ i = .int .i64 j ∧ v = .int .u32 (numB l at_ j)) (fun _ i => k - (intOf i).toNat)
 case atStart => exact ⟨0, by omega, rfl, rfl⟩
 case round =>
  obtain ⟨j, hj, rfl, rfl⟩ := hrel
  by_cases hlt : j < k
  ·have hjk : (j : Int) < k := by omega
   have hj32 : j < 32 := by omega
   have hql : (at_ + j) / 8 < len := by omega
   have hqi : ((at_ : Int) + (j : Int)) / 8 < (len : Int) := by omega
   obtain ⟨b, o, rfl, _, hc⟩ := h.row.row.at_ hql
   have HS := Lib.hid (get_step l at_ j hj32)
   go_wp2
   go_round
   case rel => exact ⟨j + 1, by omega, by go_num, val_u32 HS.out⟩
   case measure => simp [intOf]; omega
  ·obtain rfl : j = k := by omega
   have hR := (h.drewN nq).set1 hn
   have HR := Lib.hid hR
   have he : Hid ((((at_ + j : Nat) : Nat) : Int) = (at_ : Int) + (j : Int)) := by unfold Hid; omega
   clear hR h
   go_wp2
   go_ret2
   rw [← he.out]
   exact ⟨rfl, HR.out, (Out.drewN _ _ w nq).setCell 1 _⟩
set_option maxHeartbeats 1000000 in
theorem GetB_no (h : RdB w p A len cap l at_) (s : Int) (hn : 8 * len < at_ + heldN s 32) :
  Calls Tryz.prog 125 #[.pointer (some ⟨p, 0, none⟩), .int .i64 s] w fun e w' => e = .returned (.tuple #[.int .u32 0, .bool false]) ∧ RdB w' p A len cap l at_ ∧ Out p (p + 1) w w' := by
 have c0 := h.blk.cell 0
 have c1 := h.blk.cell 1
 simp at c0 c1
 have hle := h.le
 have hf := h.few
 have hk := heldN_le s 32
 have hheld := heldB_c s
 generalize heldN s 32 = k at *
 have HH := Lib.hid hheld
 have hsub : IntKind.i64.wrap (8 * (len : Int) - (at_ : Int)) = ((8 * len - at_ : Nat) : Int) := (IntWalk.i64_in _ (by omega)).trans (by omega)
 have hgt : decide (8 * len - at_ < k) = true := decide_eq_true (by omega)
 clear hheld
 go_enter Tryz.func125, Tryz.ntmps125
 go_wp2_with (go_at_call 79; refine (HH.out _).mono ?_; rintro e w' ⟨rfl, rfl⟩)
 go_quiet (fail)
 go_wp2
 go_ret2
 exact ⟨rfl, h.drewN _, Out.drewN _ _ _ _⟩
theorem BitR_ok (h : RdB w p A len cap l at_) (hn : at_ + 1 ≤ 8 * len) :
  Calls Tryz.prog 82 #[.pointer (some ⟨p, 0, none⟩)] w fun e w' => e = .returned (.tuple #[.int .u32 (numB l at_ 1), .bool true]) ∧ RdB w' p A len cap l (at_ + 1) ∧ Out p (p + 1) w w' := by
 have hg := GetB_ok h 1 hn
 have HG := Lib.hid hg
 clear hg
 go_enter Tryz.func82, Tryz.ntmps82
 go_wp2_with (go_at_call 125; refine HG.out.mono ?_; rintro e w' ⟨rfl, hR, hO⟩)
 go_ret2
 exact ⟨rfl, hR, hO⟩
theorem BitR_no (h : RdB w p A len cap l at_) (hn : 8 * len < at_ + 1) :
  Calls Tryz.prog 82 #[.pointer (some ⟨p, 0, none⟩)] w fun e w' => e = .returned (.tuple #[.int .u32 0, .bool false]) ∧ RdB w' p A len cap l at_ ∧ Out p (p + 1) w w' := by
 have hg := GetB_no h 1 hn
 have HG := Lib.hid hg
 clear hg
 go_enter Tryz.func82, Tryz.ntmps82
 go_wp2_with (go_at_call 125; refine HG.out.mono ?_; rintro e w' ⟨rfl, hR, hO⟩)
 go_ret2
 exact ⟨rfl, hR, hO⟩
set_option maxHeartbeats 1000000 in
theorem BytesR_no (h : RdB w p A len cap l at_) (m : Int) (n : Nat) (hm : max m 0 = (n : Int)) (hn : len < (at_ + 7) / 8 + n) :
  Calls Tryz.prog 172 #[.pointer (some ⟨p, 0, none⟩), .int .i64 m] w fun e w' => e = .returned (.tuple #[.slice none 0 0, .bool false]) ∧ RdB w' p A len cap l (upB at_) ∧ Out p (p + 1) w w' := by
 have hal := AlignR_c h
 have HA := Lib.hid hal
 have hle := h.le
 have hf := h.few
 have hmx : (if m < 0 then 0 else m) = (n : Int) := by split <;> omega
 obtain ⟨a, ha⟩ : ∃ a, a = (at_ + 7) / 8 := ⟨_, rfl⟩
 have hdv : ((upB at_ : Nat) : Int) / 8 = (a : Int) := by unfold upB; omega
 have hsub : IntKind.i64.wrap ((len : Int) - (a : Int)) = (len : Int) - (a : Int) := IntWalk.i64_in _ (by omega)
 have hgt : decide ((len : Int) - (a : Int) < (n : Int)) = true := decide_eq_true (by omega)
 have hab : a ≤ len := by omega
 clear hal h ha hn hm
 go_enter Tryz.func172, Tryz.ntmps172
 go_wp2_with (go_at_call 180; refine HA.out.mono ?_; rintro e w1 ⟨rfl, hR, hO⟩; have c0 := hR.blk.cell 0; have c1 := hR.blk.cell 1; simp at c0 c1)
 go_region_held3 (fun w' => w'.cell? ⟨p, 1, none⟩ = some (.int .i64 (upB at_ : Nat))) (go_keep) (fail)
 go_wp2
 go_ret2
 exact ⟨rfl, hR.drewN _, hO.trans (Out.drewN _ _ _ _)⟩
set_option maxHeartbeats 1000000 in
theorem BytesR_ok (h : RdB w p A len cap l at_) (m : Int) (n : Nat) (hm : max m 0 = (n : Int)) (hn : (at_ + 7) / 8 + n ≤ len) :
  Calls Tryz.prog 172 #[.pointer (some ⟨p, 0, none⟩), .int .i64 m] w fun e w' => ∃ A' c', e = .returned (.tuple #[.slice A' n c', .bool true]) ∧ w'.ownsRow w.heap.size 5 1 (.slice A' n c') n (cs ((l.drop ((at_ + 7) / 8)).take n)) ∧ RdB w' p A len cap l (upB at_ + 8 * n) ∧ Out p (p + 1) w w' := by
 have hal := AlignR_c h
 have HA := Lib.hid hal
 have hle := h.le
 have hf := h.few
 have hmx : (if m < 0 then 0 else m) = (n : Int) := by split <;> omega
 obtain ⟨a, ha⟩ : ∃ a, a = (at_ + 7) / 8 := ⟨_, rfl⟩
 rw [← ha] at hn ⊢
 have hdv : ((upB at_ : Nat) : Int) / 8 = (a : Int) := by unfold upB; omega
 have hub : Hid (upB at_ = 8 * a) := by unfold Hid upB; omega
 have hu2 : upB at_ ≤ 1600008 := by unfold upB; omega
 have hsub : IntKind.i64.wrap ((len : Int) - (a : Int)) = (len : Int) - (a : Int) := IntWalk.i64_in _ (by omega)
 have hgt : decide ((len : Int) - (a : Int) < (n : Int)) = false := decide_eq_false (by omega)
 have hcl := h.row.le
 have hz : (a : Int) + (n : Int) ≤ (cap : Int) := by omega
 have hz2 : (a : Int) ≤ (a : Int) + (n : Int) := by omega
 have hsl := h.row.slice (a := a) (M := a + n) (by omega) hn
 have hne := Lib.hid h.ne
 clear hal h ha hm hsl
 by_cases hcap : cap = a
 ·have e1 : cap - a = 0 := by omega
  go_enter Tryz.func172, Tryz.ntmps172
  go_wp2_with (go_at_call 180; refine HA.out.mono ?_; rintro e w1 ⟨rfl, hR, hO⟩; have c0 := hR.blk.cell 0; have c1 := hR.blk.cell 1; have f1 := hR.blk.frozen 1; simp at c0 c1)
  go_region_held3 (fun w' => w'.cell? ⟨p, 1, none⟩ = some (.int .i64 (upB at_ : Nat))) (go_keep) (fail)
  have hR2 := (hR.set1 (m := upB at_ + 8 * n) (by have := hub.out; omega)).drewN 1
  rw [show ((upB at_ + 8 * n : Nat) : Int) = (upB at_ : Int) + 8 * (n : Int) by omega] at hR2
  have hrow := Lib.hid ((hR2.row.slice (a := a) (M := a + n) (by omega) hn).1 hcap)
  go_wp2_with (go_at_call 51; refine (Clone_c _ n _ ((l.drop a).take n) _ (by have hx := hrow.out.row; rw [show a + n - a = n by omega] at hx; exact hx) (by omega)).mono ?_; rintro e w2 ⟨A', c', rfl, hown, hbel⟩)
  go_ret2
  exact ⟨A', c', rfl, own_base2 hown (by have := hO.size; simp [World.setCell]; exact this), hR2.below hbel, ((hO.setCell 1 _).trans (Out.drewN _ _ _ 1)).ofB hbel⟩
 ·have hcap3 : ¬ cap = a := hcap
  go_enter Tryz.func172, Tryz.ntmps172
  go_wp2_with (go_at_call 180; refine HA.out.mono ?_; rintro e w1 ⟨rfl, hR, hO⟩; have c0 := hR.blk.cell 0; have c1 := hR.blk.cell 1; have f1 := hR.blk.frozen 1; simp at c0 c1)
  go_region_held3 (fun w' => w'.cell? ⟨p, 1, none⟩ = some (.int .i64 (upB at_ : Nat))) (go_keep) (fail)
  have hR2 := (hR.set1 (m := upB at_ + 8 * n) (by have := hub.out; omega)).drewN 1
  rw [show ((upB at_ + 8 * n : Nat) : Int) = (upB at_ : Int) + 8 * (n : Int) by omega] at hR2
  have hrow := Lib.hid ((hR2.row.slice (a := a) (M := a + n) (by omega) hn).2 hcap)
  go_wp2_with (go_at_call 51; refine (Clone_c _ n _ ((l.drop a).take n) _ (by have hx := hrow.out.row; rw [show a + n - a = n by omega] at hx; exact hx) (by omega)).mono ?_; rintro e w2 ⟨A', c', rfl, hown, hbel⟩)
  go_ret2
  exact ⟨A', c', rfl, own_base2 hown (by have := hO.size; simp [World.setCell]; exact this), hR2.below hbel, ((hO.setCell 1 _).trans (Out.drewN _ _ _ 1)).ofB hbel⟩
end
end
section
open Go.RowKit
set_option maxRecDepth 100000
set_option linter.unusedVariables false
theorem two64_pow : two64 = 256 ^ 8 := by decide
theorem ret_u64 {a b : Int} (h : a = b) : Ending.returned (.int .u64 a) = .returned (.int .u64 b) := by rw [h]
theorem val_u64 {a b : Int} (h : a = b) : Value.int .u64 a = .int .u64 b := by rw [h]
theorem wrap_u64_nat (n : Nat) : IntKind.u64.wrap (n : Int) = ((n % two64 : Nat) : Int) := by
 rw [IntKind.wrap_u64]
 unfold two64
 omega
theorem wrap_u64_lt {n : Nat} (h : n < two64) : IntKind.u64.wrap (n : Int) = (n : Int) := by rw [wrap_u64_nat, Nat.mod_eq_of_lt h]
theorem pow256_le {k : Nat} (h : k < 8) {x : Nat} (hx : x < 256) : 256 ^ k * x + 256 ^ k ≤ two64 := by
 rw [two64_pow]
 have h1 : 256 ^ k * (x + 1) ≤ 256 ^ k * 256 := Nat.mul_le_mul_left _ hx
 have h2 : 256 ^ (k + 1) ≤ 256 ^ 8 := Nat.pow_le_pow_right (by decide) h
 rw [Nat.pow_succ] at h2
 rw [Nat.mul_add, Nat.mul_one] at h1
 exact Nat.le_trans h1 h2
theorem or64 (a k : Nat) (x : F) (ha : a < 256 ^ k) (hk : k < 8) : bits BinOp.or IntKind.u64 (a : Int) (IntKind.u64.wrap (IntKind.u64.wrap (x.n : Int) * 2 ^ (8 * k))) = ((a + 256 ^ k * x.n : Nat) : Int) := by
 have h1 := pow256_le hk x.lt
 have hx : x.n < two64 := Nat.lt_of_lt_of_le x.lt (by decide)
 have hp : 0 < 256 ^ k := Nat.pow_pos (by decide)
 have h2 : (x.n : Int) * 2 ^ (8 * k) = ((x.n * 2 ^ (8 * k) : Nat) : Int) := by simp
 have h3 : x.n * 2 ^ (8 * k) = 256 ^ k * x.n := by rw [← pow256, Nat.mul_comm]
 rw [wrap_u64_lt hx, h2, wrap_u64_lt (by rw [h3]; omega), bits_or_u64_nat _ _ (show a < two64 by omega) (show _ < two64 by rw [h3]; omega), or_byte _ _ _ ha]
theorem sum64 (a k : Nat) (x : F) (ha : a < 256 ^ k) (hk : k < 8) : IntKind.u64.wrap ((a : Int) + IntKind.u64.wrap (IntKind.u64.wrap (x.n : Int) * (256 ^ k % (two64 : Nat) : Int))) = ((a + 256 ^ k * x.n : Nat) : Int) := by
 have h1 := pow256_le hk x.lt
 have hx : x.n < two64 := Nat.lt_of_lt_of_le x.lt (by decide)
 have hp : 0 < 256 ^ k := Nat.pow_pos (by decide)
 have hpl : 256 ^ k < two64 := by rw [two64_pow]; exact Nat.pow_lt_pow_right (by decide) hk
 have h2 : (256 ^ k % (two64 : Nat) : Int) = ((256 ^ k : Nat) : Int) := by
  rw [show (256 ^ k % (two64 : Nat) : Int) = ((256 ^ k % two64 : Nat) : Int) by simp, Nat.mod_eq_of_lt hpl]
 have h3 : x.n * 256 ^ k = 256 ^ k * x.n := Nat.mul_comm _ _
 rw [wrap_u64_lt hx, h2, ← Int.natCast_mul, wrap_u64_lt (by omega), ← Int.natCast_add, wrap_u64_lt (by omega), h3]
theorem by64 (k : Nat) : IntKind.u64.wrap ((256 ^ k % (two64 : Nat) : Int) * 256) = ((256 ^ (k + 1) % two64 : Nat) : Int) := by
 rw [show (256 ^ k % (two64 : Nat) : Int) * 256 = ((256 ^ k % two64 * 256 : Nat) : Int) by simp, wrap_u64_nat, Nat.mul_mod, Nat.mod_mod, ← Nat.mul_mod, Nat.pow_succ]
theorem heldN_cast (s : Int) (m : Nat) : ((heldN s m : Nat) : Int) = min (max s 0) (m : Int) := by unfold heldN; omega
theorem held_c (s : Int) (w : World) : Calls Tryz.prog 171 #[.int .i64 s] w fun e w' => e = .returned (.int .i64 (heldN s 8)) ∧ w = w' := by
 go_enter Tryz.func171, Tryz.ntmps171
 go_wp2
 all_goals (go_ret; exact ⟨ret_i64 (by rw [heldN_cast]; omega), rfl⟩)
set_option maxHeartbeats 2000000 in
theorem Put_c (v : Nat) (hv : v < two64) (s : Int) (w : World) :
  Calls Tryz.prog 142 #[.int .u64 v, .int .i64 s] w fun e w' => ∃ g, e = .returned (.slice (some ⟨g, 0, none⟩) (heldN s 8) (heldN s 8)) ∧ w'.ownsRow w.heap.size 5 1 (.slice (some ⟨g, 0, none⟩) (heldN s 8) (heldN s 8)) (heldN s 8) (cs (putL v (heldN s 8))) ∧ Below w.heap.size w w' := by
 obtain ⟨i0, hi, hz0, hz1, hz2⟩ := info_parts info_u8
 have hm := heldN_le s 8
 have hheld := held_c s
 generalize heldN s 8 = m at *
 have HH := Lib.hid hheld
 clear hheld
 go_enter Tryz.func142, Tryz.ntmps142
 go_wp2_with (first
  | (go_at_call 171; refine (HH.out _).mono ?_; rintro e w' ⟨rfl, rfl⟩)
  | (at_make; refine wpList_make_full _ rfl _ _ 22 rfl w.heap.size 5 i0 (.int .u8 0) 1 Tryz.underlying22 hi hz0 hz1 _ _ _ _ m rfl rfl rfl rfl (by rw [hz2]; omega) (by unfold maxLen; omega) (Nat.le_refl _) ?_; intro w0 hown0 hgrow0))
 go_loopw [12] (fun i wr => ∃ k : Nat, k ≤ m ∧ i = .int .i64 k ∧ wr.ownsRow w.heap.size 5 1 (.slice (some ⟨w.heap.size, 0, none⟩) m m) m (cs (part (putL v m) k)) ∧ Below w.heap.size w wr) (fun i _ => m - (intOf i).toNat)
 case atStart => exact ⟨0, by omega, rfl, part_cells _ _ _ _ (putL_length _ _) hown0, (Below.refl _ _).grown hgrow0 (Nat.le_refl _) (fun k h => by cases h)⟩
 case round =>
  obtain ⟨k, hk, rfl, hown, hbel⟩ := hrel
  by_cases hlt : k < m
  ·have hkn : (k : Int) < m := by omega
   have hval : Hid (gt (putL v m) k = ofN (v / 256 ^ k % 256)) := by unfold Hid; rw [gt_putL _ _ _ hlt]
   have hfz := hown.frozenAt k
   have hl2 : Hid ((part (putL v m) k).length = m) := by unfold Hid; rw [part_length, putL_length]
   have hc2 := hown.cellAt k (by omega)
   rw [cs_at (by rw [hl2.out]; exact hlt)] at hc2
   have hs := Lib.hid (hown.stored k (.int .u8 (ofN (v / 256 ^ k % 256)).n)).1
   have hbyte : Hid ((v : Int) / 2 ^ (8 * k) % 256 = ((ofN (v / 256 ^ k % 256)).n : Int)) := by
    unfold Hid
    rw [ofN_n _ (Nat.mod_lt _ (by decide)), pow256]
    simp
   clear hv
   go_wp2
   go_roundw
   case rel =>
    refine ⟨k + 1, by omega, by go_num, ?_, hbel.setCell (Nat.le_refl _) _⟩
    have hs := hs.out
    rw [cs_set, ← hval.out, part_set _ _ (by rw [putL_length]; exact hlt)] at hs
    rw [hbyte.out, ← hval.out]
    exact hs
   case measure => simp [intOf]; omega
  ·have hk2 : Hid (part (putL v m) k = putL v m) := by
    unfold Hid
    rw [show k = (putL v m).length by rw [putL_length]; omega, part_all]
   go_wp2
   go_ret
   refine ⟨_, rfl, ?_, hbel⟩
   rw [hk2.out] at hown
   exact hown
set_option maxHeartbeats 2000000 in
theorem Get_c (A : Option Addr) (n c : Nat) (l : List F) (w : World) (h : Row w A n l) :
  Calls Tryz.prog 143 #[.slice A n c] w fun e w' => e = .returned (.int .u64 (getL (l.take 8))) ∧ w = w' := by
 have hnm := h.max
 have HL := Lib.hid h.len
 obtain ⟨m, hm⟩ : ∃ m, m = min n 8 := ⟨_, rfl⟩
 have hmi : (if (8 : Int) < n then 8 else (n : Int)) = (m : Int) := by split <;> omega
 have HM := Lib.hid hm
 have hm8 : m ≤ 8 := by omega
 have hmn : m ≤ n := by omega
 clear hm
 go_enter Tryz.func143, Tryz.ntmps143
 go_wp2
 go_loop [3, 8] (fun v i => ∃ k : Nat, k ≤ m ∧ i = .int .i64 k ∧ v = .int .u64 (getL (l.take k))) (fun _ i => m - (intOf i).toNat)
 case atStart => exact ⟨0, by omega, rfl, rfl⟩
 case round =>
  obtain ⟨k, hk, rfl, rfl⟩ := hrel
  by_cases hlt : k < m
  ·have hkn : (k : Int) < m := by omega
   obtain ⟨b, o, rfl, _, hc⟩ := h.at_ (k := k) (by omega)
   have hk8 : k < 8 := by omega
   have hor := or64 (getL (l.take k)) k (gt l k) (by have := getL_lt (l.take k); rw [List.length_take, HL.out, show min k n = k by omega] at this; exact this) hk8
   rw [← getL_take_succ l k (by rw [HL.out]; omega)] at hor
   have HO := Lib.hid hor
   clear hor
   go_wp2
   go_round
   case rel => exact ⟨k + 1, by omega, by go_num, val_u64 HO.out⟩
   case measure => simp [intOf]; omega
  ·have hfin : Hid (l.take k = l.take 8) := by
    unfold Hid
    have := HM.out
    have := HL.out
    rcases (show n ≤ 8 ∨ k = 8 by omega) with h8 | h8
    ·rw [List.take_of_length_le (by omega), List.take_of_length_le (by omega)]
    ·rw [h8]
   go_wp2
   go_ret
   exact ⟨ret_u64 (by rw [hfin.out]), rfl⟩
set_option maxHeartbeats 2000000 in
theorem RefGet_c (A : Option Addr) (n c : Nat) (l : List F) (w : World) (h : Row w A n l) :
  Calls Tryz.prog 89 #[.slice A n c] w fun e w' => e = .returned (.int .u64 (getL (l.take 8))) ∧ w = w' := by
 have hnm := h.max
 have HL := Lib.hid h.len
 go_enter Tryz.func89, Tryz.ntmps89
 go_wp2
 go_loop [3, 4, 5] (fun v by_ i => ∃ k : Nat, k ≤ n ∧ k ≤ 8 ∧ i = .int .i64 k ∧ v = .int .u64 (getL (l.take k)) ∧ by_ = .int .u64 ((256 ^ k % two64 : Nat) : Int)) (fun _ _ i => n - (intOf i).toNat)
 case atStart => exact ⟨0, by omega, by omega, rfl, rfl, rfl⟩
 case round =>
  obtain ⟨k, hk, hk8, rfl, rfl, rfl⟩ := hrel
  by_cases hlt : k < n
  ·have hkn : (k : Int) < n := by omega
   obtain ⟨b, o, rfl, _, hc⟩ := h.at_ (k := k) (by omega)
   by_cases h8 : k < 8
   ·have hk8i : (k : Int) < 8 := by omega
    have hsum := sum64 (getL (l.take k)) k (gt l k) (by have := getL_lt (l.take k); rw [List.length_take, HL.out, show min k n = k by omega] at this; exact this) h8
    rw [← getL_take_succ l k (by rw [HL.out]; omega)] at hsum
    have HS := Lib.hid hsum
    clear hsum
    go_wp2
    go_round
    case rel => exact ⟨k + 1, by omega, by omega, by go_num, val_u64 HS.out, val_u64 (by64 k)⟩
    case measure => simp [intOf]; omega
   ·have hk8i : ¬ (k : Int) < 8 := by omega
    obtain rfl : k = 8 := by omega
    go_wp2
    go_ret
    exact ⟨rfl, rfl⟩
  ·have hkn : ¬ (k : Int) < n := by omega
   have hfin : Hid (l.take k = l.take 8) := by
    unfold Hid
    have := HL.out
    rw [List.take_of_length_le (by omega), List.take_of_length_le (by omega)]
   go_wp2
   go_ret
   exact ⟨ret_u64 (by rw [hfin.out]), rfl⟩
set_option maxHeartbeats 2000000 in
theorem RefPut_c (v : Nat) (hv : v < two64) (s : Int) (w : World) :
  Calls Tryz.prog 98 #[.int .u64 v, .int .i64 s] w fun e w' => ∃ A c, e = .returned (.slice A (heldN s 8) c) ∧ w'.ownsRow w.heap.size 5 1 (.slice A (heldN s 8) c) (heldN s 8) (cs (putL v (heldN s 8))) ∧ Below w.heap.size w w' := by
 obtain ⟨i0, hi, hz0, hz1, hz2⟩ := info_parts info_u8
 go_enter Tryz.func98, Tryz.ntmps98
 go_wp2
 go_loopw [0, 5, 6] (fun u o i wr => ∃ (k c : Nat) (A : Option Addr), k ≤ heldN s 8 ∧ i = .int .i64 k ∧ u = .int .u64 ((v / 256 ^ k : Nat) : Int) ∧ o = .slice A k c ∧ wr.ownsRow w.heap.size 5 1 (.slice A k c) k (cs (putL v k)) ∧ Below w.heap.size w wr) (fun _ _ i _ => 8 - (intOf i).toNat)
 case atStart => exact ⟨0, 0, _, by omega, rfl, by simp, rfl, World.ownsRow_made w #[] 0 (Nat.le_refl _) (Nat.zero_le _) rfl, (Below.refl _ _).alloc (Nat.le_refl _) _⟩
 case round =>
  obtain ⟨k, c, A, hk, rfl, rfl, rfl, hown, hbel⟩ := hrel
  have hle := heldN_le s 8
  have hh := heldN_cast s 8
  by_cases hlt : k < heldN s 8
  ·have hks : (k : Int) < s := by omega
   have hk8 : (k : Int) < 8 := by omega
   clear hh
   obtain ⟨x, hx⟩ : ∃ x : F, x = ofN (v / 256 ^ k % 256) := ⟨_, rfl⟩
   have hb : Hid (((v : Int) / 256 ^ k).tmod 256 % 256 = (x.n : Int)) := by
    unfold Hid
    rw [hx, ofN_n _ (Nat.mod_lt _ (by decide)), show (v : Int) / 256 ^ k = ((v / 256 ^ k : Nat) : Int) by simp, Int.tmod_eq_emod_of_nonneg (Int.natCast_nonneg _)]
    generalize v / 256 ^ k = q
    omega
   have HX := Lib.hid hx
   clear hx
   have hq : Hid (IntKind.u64.wrap (((v : Int) / 256 ^ k).tdiv 256) = ((v / 256 ^ (k + 1) : Nat) : Int)) := by
    unfold Hid
    have hlt2 : v / 256 ^ (k + 1) < two64 := Nat.lt_of_le_of_lt (Nat.div_le_self _ _) hv
    rw [← wrap_u64_lt hlt2]
    refine congrArg _ ?_
    rw [Nat.pow_succ, ← Nat.div_div_eq_div_mul, show (v : Int) / 256 ^ k = ((v / 256 ^ k : Nat) : Int) by simp, Int.tdiv_eq_ediv_of_nonneg (Int.natCast_nonneg _)]
    generalize v / 256 ^ k = q
    omega
   have hws := hbel.size
   clear hv
   go_wp2_with (at_builtin; (refine wpList_append_own _ rfl _ _ 22 rfl w.heap.size 5 i0 (.int .u8 0) 1 1 Tryz.underlying22 hi hz0 hz1 hz2 rfl (by decide) _ _ _ rfl (hown.alloc _) ⟨wr.heap.size, 0, none⟩ 1 1 [.int .u8 (((v : Int) / 256 ^ k).tmod 256 % 256)] rfl rfl (one_cell wr _ _) (by intro u hu; simp at hu; subst hu; rfl) (by unfold maxLen; omega) (by omega) (by simp; omega) ?_); intro v' w1 hown' hgrow hnil)
   obtain ⟨V', cv', hv, _⟩ := own_shape hown'
   subst hv
   go_wp2
   go_roundw
   case rel =>
    refine ⟨k + 1, cv', V', by omega, by go_num, val_u64 hq.out, rfl, ?_, (hbel.alloc hbel.size _).grown hgrow (by have := hbel.size; simp; omega) (fun g hg => (hown.lt g hg).1)⟩
    rw [hb.out] at hown'
    rw [putL_succ, cs_append, ← HX.out]
    exact hown'
   case measure => simp [intOf]; omega
  ·obtain rfl : k = heldN s 8 := by omega
   by_cases hks : ((heldN s 8 : Nat) : Int) < s
   ·have hk8 : ¬ ((heldN s 8 : Nat) : Int) < 8 := by omega
    clear hh
    go_wp2
    go_ret
    exact ⟨A, c, rfl, hown, hbel⟩
   ·clear hh
    go_wp2
    go_ret
    exact ⟨A, c, rfl, hown, hbel⟩
end
end Go.Proofs.YtldgdofefcehnaaGreatDoor
