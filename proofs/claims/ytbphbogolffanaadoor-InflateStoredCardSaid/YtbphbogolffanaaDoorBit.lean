/-
  LAYER 8, WITHOUT ANY PROGRAM: rows of bits, the bytes that hold them, and numbers of bits. No conditions.
-/
import Derived.Test.YtbphbogolffanaaDoorBase
namespace Go.Proofs.YtbphbogolffanaaDoor
set_option linter.unusedVariables false

/-- a number of bits, the lowest one first -/
def bsN (f : Nat → Bool) : Nat → Nat
  | 0 => 0
  | m + 1 => bsN f m + (if f m then 2 ^ m else 0)
theorem bsN_succ (f : Nat → Bool) (m : Nat) : bsN f (m + 1) = bsN f m + (if f m then 2 ^ m else 0) := rfl
theorem bsN_lt (f : Nat → Bool) (m : Nat) : bsN f m < 2 ^ m := by
  induction m with
  | zero => exact Nat.one_pos
  | succ m ih => rw [bsN_succ]; rw [Nat.pow_succ]; split <;> omega
theorem bsN_congr {f g : Nat → Bool} {m : Nat} (h : ∀ i, i < m → f i = g i) : bsN f m = bsN g m := by
  induction m with
  | zero => rfl
  | succ m ih =>
    rw [bsN_succ, bsN_succ, ih fun i hi => h i (by omega), h m (by omega)]
theorem bsN_part {f : Nat → Bool} {r m : Nat} (hr : r ≤ m) (h : ∀ i, r ≤ i → i < m → f i = false) : bsN f m = bsN f r := by
  induction m with
  | zero => obtain rfl : r = 0 := by omega
            rfl
  | succ m ih =>
    rcases (show r ≤ m ∨ r = m + 1 by omega) with h1 | rfl
    · rw [bsN_succ, ih h1 fun i hi hm => h i hi (by omega), h m h1 (by omega)]
      simp
    · rfl
theorem bsN_testBit (v m : Nat) : bsN (fun i => v.testBit i) m = v % 2 ^ m := by
  induction m with
  | zero => simp [bsN, Nat.mod_one]
  | succ m ih =>
    rw [bsN_succ, ih, Nat.mod_pow_succ, Nat.testBit_eq_decide_div_mod_eq]
    rcases Nat.mod_two_eq_zero_or_one (v / 2 ^ m) with h | h <;> simp [h]
theorem testBit_bsN (f : Nat → Bool) (m i : Nat) : (bsN f m).testBit i = (decide (i < m) && f i) := by
  induction m with
  | zero => simp [bsN]
  | succ m ih =>
    have h := bsN_lt f m
    rw [bsN_succ]
    by_cases hf : f m = true
    · rw [if_pos hf, Nat.add_comm]
      rcases Nat.lt_trichotomy i m with h1 | rfl | h1
      · rw [Nat.testBit_two_pow_add_gt h1, ih]
        simp [h1, show i < m + 1 by omega]
      · rw [Nat.testBit_two_pow_add_eq, ih]
        simp [hf]
      · have e1 : (2 ^ m + bsN f m).testBit i = false := Nat.testBit_lt_two_pow (Nat.lt_of_lt_of_le (show 2 ^ m + bsN f m < 2 ^ (m + 1) by rw [Nat.pow_succ]; omega) (Nat.pow_le_pow_right (by decide) h1))
        rw [e1]
        simp [show ¬ i < m + 1 by omega]
    · rw [if_neg hf, Nat.add_zero, ih]
      rcases Nat.lt_trichotomy i m with h1 | rfl | h1
      · simp [h1, show i < m + 1 by omega]
      · simp [hf]
      · simp [show ¬ i < m by omega, show ¬ i < m + 1 by omega]

/-- the bit at a place, none behind the end -/
def gbit (X : List Bool) (i : Nat) : Bool := X.getD i false
theorem gbit_ge {X : List Bool} {i : Nat} (h : X.length ≤ i) : gbit X i = false := by simp [gbit, h]
theorem gbit_append (X Y : List Bool) (i : Nat) : gbit (X ++ Y) i = if i < X.length then gbit X i else gbit Y (i - X.length) := by
  unfold gbit
  by_cases h : i < X.length <;> simp [List.getD, List.getElem?_append, h]
theorem gbit_ext {X Y : List Bool} (hl : X.length = Y.length) (h : ∀ i, i < X.length → gbit X i = gbit Y i) : X = Y := by
  refine List.ext_getElem hl fun i h1 h2 => ?_
  have := h i h1
  simpa [gbit, h1, h2] using this
/-- the byte at a place, of bits -/
def byteN (X : List Bool) (j : Nat) : Nat := bsN (fun k => gbit X (8 * j + k)) 8
theorem byteN_lt (X : List Bool) (j : Nat) : byteN X j < 256 := bsN_lt _ 8
/-- the first m bytes of bits; all of them -/
def packN (X : List Bool) (m : Nat) : List F := mkF (fun j => ofN (byteN X j)) m
def pack (X : List Bool) : List F := packN X ((X.length + 7) / 8)
theorem packN_length (X : List Bool) (m : Nat) : (packN X m).length = m := mkF_length _ _
theorem pack_length (X : List Bool) : (pack X).length = (X.length + 7) / 8 := mkF_length _ _
theorem gt_packN (X : List Bool) (m j : Nat) : gt (packN X m) j = if j < m then ofN (byteN X j) else 0 := gt_mkF _ _ _
theorem byteN_ge {X : List Bool} {j : Nat} (h : X.length ≤ 8 * j) : byteN X j = 0 := by
  unfold byteN
  rw [bsN_part (r := 0) (by omega) fun i _ _ => gbit_ge (by omega)]
  rfl
theorem packN_succ_of {X : List Bool} {m : Nat} (h : X.length ≤ 8 * m) : packN X (m + 1) = packN X m ++ [0] := by
  show mkF _ m ++ [ofN (byteN X m)] = _
  rw [byteN_ge h]
  rfl
theorem byteN_last (X : List Bool) : byteN X (X.length / 8) < 2 ^ (X.length % 8) := by
  unfold byteN
  rw [bsN_part (r := X.length % 8) (by omega) fun i hi _ => gbit_ge (by omega)]
  exact bsN_lt _ _
theorem byteN_snoc (X : List Bool) (b : Bool) : byteN (X ++ [b]) (X.length / 8) = byteN X (X.length / 8) + (if b then 2 ^ (X.length % 8) else 0) := by
  have h1 : byteN (X ++ [b]) (X.length / 8) = bsN (fun k => gbit (X ++ [b]) (8 * (X.length / 8) + k)) (X.length % 8 + 1) :=
    bsN_part (by omega) fun i hi _ => gbit_ge (by simp; omega)
  have h2 : byteN X (X.length / 8) = bsN (fun k => gbit X (8 * (X.length / 8) + k)) (X.length % 8) :=
    bsN_part (by omega) fun i hi _ => gbit_ge (by omega)
  rw [h1, h2, bsN_succ]
  congr 1
  · exact bsN_congr fun i hi => by rw [gbit_append, if_pos (by omega)]
  · have e : gbit (X ++ [b]) (8 * (X.length / 8) + X.length % 8) = b := by
      rw [gbit_append, if_neg (by omega), show 8 * (X.length / 8) + X.length % 8 - X.length = 0 by omega]
      rfl
    rw [e]
/-- one bit more -/
theorem packN_snoc (X : List Bool) (b : Bool) : packN (X ++ [b]) (X.length / 8 + 1) = (packN X (X.length / 8 + 1)).set (X.length / 8) (ofN (byteN X (X.length / 8) + (if b then 2 ^ (X.length % 8) else 0))) := by
  refine ext_gt (by simp [packN_length]) fun j hj => ?_
  rw [packN_length] at hj
  rw [gt_set _ _ _ _ (by rw [packN_length]; omega), gt_packN, if_pos hj]
  by_cases e : j = X.length / 8
  · rw [if_pos e, e, byteN_snoc]
  · rw [if_neg e, gt_packN, if_pos hj]
    congr 1
    exact bsN_congr fun i hi => by rw [gbit_append, if_pos (by omega)]
theorem pack_snoc (X : List Bool) (b : Bool) : pack (X ++ [b]) = packN (X ++ [b]) (X.length / 8 + 1) := by
  unfold pack
  rw [show ((X ++ [b]).length + 7) / 8 = X.length / 8 + 1 by simp; omega]
/-- a number's lowest bits, the lowest one first; the highest one first -/
def putB (v n : Nat) : List Bool := (List.range n).map fun i => v.testBit i
def codeB (v n : Nat) : List Bool := (List.range n).map fun i => v.testBit (n - 1 - i)
theorem putB_length (v n : Nat) : (putB v n).length = n := by simp [putB]
theorem codeB_length (v n : Nat) : (codeB v n).length = n := by simp [codeB]
theorem gbit_putB (v n i : Nat) : gbit (putB v n) i = (decide (i < n) && v.testBit i) := by
  unfold gbit putB
  by_cases h : i < n <;> simp [List.getD, h]
theorem gbit_codeB (v n i : Nat) : gbit (codeB v n) i = (decide (i < n) && v.testBit (n - 1 - i)) := by
  unfold gbit codeB
  by_cases h : i < n <;> simp [List.getD, h]
theorem range_map_succ {α : Type} (f : Nat → α) (k : Nat) : (List.range (k + 1)).map f = (List.range k).map f ++ [f k] := by simp [List.range_succ]
/-- with noughts up to a byte's end -/
def alB (X : List Bool) : List Bool := X ++ List.replicate (8 * ((X.length + 7) / 8) - X.length) false
theorem alB_length (X : List Bool) : (alB X).length = 8 * ((X.length + 7) / 8) := by simp [alB]; omega
theorem gbit_alB (X : List Bool) (i : Nat) : gbit (alB X) i = gbit X i := by
  unfold alB
  rw [gbit_append]
  by_cases h : i < X.length
  · rw [if_pos h]
  · rw [if_neg h, gbit_ge (X := X) (by omega)]
    unfold gbit
    by_cases h2 : i - X.length < 8 * ((X.length + 7) / 8) - X.length <;> simp [List.getD, h2]
theorem byteN_alB (X : List Bool) (j : Nat) : byteN (alB X) j = byteN X j := bsN_congr fun k _ => gbit_alB X _
theorem pack_alB (X : List Bool) : pack (alB X) = pack X := by
  unfold pack packN
  rw [alB_length, show (8 * ((X.length + 7) / 8) + 7) / 8 = (X.length + 7) / 8 by omega]
  congr 1
  funext j
  rw [byteN_alB]
/-- a row's bit at a place -/
def rb (l : List F) (i : Nat) : Bool := (gt l (i / 8)).n.testBit (i % 8)
/-- all bits of bytes -/
def bitsOf (l : List F) : List Bool := (List.range (8 * l.length)).map (rb l)
theorem bitsOf_length (l : List F) : (bitsOf l).length = 8 * l.length := by simp [bitsOf]
theorem gbit_bitsOf (l : List F) (i : Nat) : gbit (bitsOf l) i = rb l i := by
  unfold gbit bitsOf
  by_cases h : i < 8 * l.length
  · simp [List.getD, h]
  · have : gt l (i / 8) = 0 := gt_ge (by omega)
    simp [List.getD, h, rb, this, n_zero]
theorem rb_pack (X : List Bool) (i : Nat) : rb (pack X) i = gbit X i := by
  unfold rb pack
  rw [gt_packN]
  by_cases h : i / 8 < (X.length + 7) / 8
  · rw [if_pos h, ofN_n _ (byteN_lt _ _)]
    unfold byteN
    rw [testBit_bsN, decide_eq_true (show i % 8 < 8 by omega), Bool.true_and, show 8 * (i / 8) + i % 8 = i by omega]
  · rw [if_neg h, n_zero, gbit_ge (by omega)]
    simp
theorem byteN_bitsOf (l : List F) (j : Nat) : byteN (bitsOf l) j = (gt l j).n := by
  unfold byteN
  have h : ∀ k, k < 8 → gbit (bitsOf l) (8 * j + k) = (gt l j).n.testBit k := fun k hk => by
    rw [gbit_bitsOf]
    unfold rb
    rw [show (8 * j + k) / 8 = j by omega, show (8 * j + k) % 8 = k by omega]
  rw [bsN_congr h, bsN_testBit]
  exact Nat.mod_eq_of_lt (gt l j).lt
theorem pack_append {X : List Bool} (h : X.length % 8 = 0) (l : List F) : pack (X ++ bitsOf l) = pack X ++ l := by
  have h1 : (pack X).length = X.length / 8 := by rw [pack_length]; omega
  refine ext_gt (by rw [pack_length, List.length_append, List.length_append, h1, bitsOf_length]; omega) fun j hj => ?_
  rw [pack_length, List.length_append, bitsOf_length] at hj
  unfold pack
  rw [gt_packN, List.length_append, bitsOf_length, if_pos hj, gt_append, packN_length]
  by_cases e : j < (X.length + 7) / 8
  · rw [if_pos e, gt_packN, if_pos e]
    congr 1
    exact bsN_congr fun k hk => by rw [gbit_append, if_pos (by omega)]
  · rw [if_neg e]
    refine F.ext ?_
    rw [ofN_n _ (byteN_lt _ _), ← byteN_bitsOf]
    exact bsN_congr fun k hk => by rw [gbit_append, if_neg (by omega)]; congr 1; omega
/-- a number of a row's bits -/
def numB (l : List F) (at_ n : Nat) : Nat := bsN (fun i => rb l (at_ + i)) n
theorem numB_lt (l : List F) (at_ n : Nat) : numB l at_ n < 2 ^ n := bsN_lt _ _
theorem numB_succ (l : List F) (at_ n : Nat) : numB l at_ (n + 1) = numB l at_ n + (if rb l (at_ + n) then 2 ^ n else 0) := rfl
/-- what was put is got -/
theorem numB_put {X Y Z : List Bool} {v n : Nat} {at_ : Nat} (h : X = Y ++ putB v n ++ Z) (ha : at_ = Y.length) : numB (pack X) at_ n = v % 2 ^ n := by
  unfold numB
  rw [← bsN_testBit]
  refine bsN_congr fun i hi => ?_
  rw [rb_pack, h, ha, gbit_append, if_pos (by simp [putB_length]; omega), gbit_append, if_neg (by omega), gbit_putB, show Y.length + i - Y.length = i by omega, decide_eq_true hi, Bool.true_and]
theorem pack_take {X : List Bool} (h : X.length % 8 = 0) (Y : List Bool) : (pack (X ++ Y)).take (X.length / 8) = pack X := by
  have h1 : (pack X).length = X.length / 8 := by rw [pack_length]; omega
  refine ext_gt (by rw [List.length_take, pack_length, h1, List.length_append]; omega) fun j hj => ?_
  rw [List.length_take, pack_length, List.length_append] at hj
  rw [gt_take, if_pos (by omega)]
  unfold pack
  rw [gt_packN, gt_packN, if_pos (by rw [List.length_append]; omega), if_pos (by omega)]
  congr 1
  exact bsN_congr fun k hk => by rw [gbit_append, if_pos (by omega)]
theorem or_bit (a r : Nat) (b : Bool) (ha : a < 2 ^ r) : a ||| (if b then 2 ^ r else 0) = a + (if b then 2 ^ r else 0) := by
  cases b
  · simp
  · have h := Nat.two_pow_add_eq_or_of_lt ha 1
    rw [Nat.mul_one] at h
    simp only [if_true]
    rw [Nat.or_comm, ← h, Nat.add_comm]
end Go.Proofs.YtbphbogolffanaaDoor
