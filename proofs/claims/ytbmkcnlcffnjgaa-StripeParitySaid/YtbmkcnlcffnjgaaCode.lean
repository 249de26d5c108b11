/-
  CODEWORDS, WITHOUT ANY PROGRAM: what a polynomial is at the places 0, 1, ..; how few bytes tell it. No conditions.
-/
import Derived.Test.YtbmkcnlcffnjgaaRef5
namespace Go.Proofs.Ytbmkcnlcffnjgaa
set_option linter.unusedVariables false

/-- the places 0, 1, .. -/
def plI (i : Nat) : F := ofN i
theorem plI_n (i : Nat) : (plI i).n = i % 256 := by
  unfold plI ofN F.n
  exact UInt8.toNat_ofNat' ..
theorem plI_conv (i : Nat) : (i : Int) % 256 = ((plI i).n : Int) := by rw [plI_n]; omega
theorem plI_nodup (N : Nat) (hN : N ≤ 256) : (mkF plI N).Nodup := by
  rw [List.nodup_iff_pairwise_ne, List.pairwise_iff_getElem]
  intro i j hi hj hij e
  rw [mkF_length] at hi hj
  have h1 : gt (mkF plI N) i = gt (mkF plI N) j := by
    rw [gt_lt (by rw [mkF_length]; exact hi), gt_lt (by rw [mkF_length]; exact hj), e]
  rw [gt_mkF, gt_mkF, if_pos hi, if_pos hj] at h1
  have h2 := congrArg F.n h1
  rw [plI_n, plI_n] at h2
  omega
/-- what a polynomial is at m places, from f on -/
def vals (T : List F) (f m : Nat) : List F := mkF (fun i => ev T (plI (f + i))) m
theorem vals_length (T : List F) (f m : Nat) : (vals T f m).length = m := mkF_length _ _
theorem gt_vals (T : List F) (f m i : Nat) : gt (vals T f m) i = if i < m then ev T (plI (f + i)) else 0 := gt_mkF _ _ _
theorem vals_append (T : List F) (f m k : Nat) : vals T f m ++ vals T (f + m) k = vals T f (m + k) := by
  refine ext_gt (by rw [List.length_append, vals_length, vals_length, vals_length]) fun i hi => ?_
  rw [List.length_append, vals_length, vals_length] at hi
  rw [gt_append, vals_length, gt_vals, gt_vals, gt_vals, if_pos hi]
  by_cases h : i < m
  · rw [if_pos h, if_pos h]
  · rw [if_neg h, if_pos (by omega), show f + m + (i - m) = f + i by omega]
theorem vals_take (T : List F) (f m k : Nat) (h : k ≤ m) : (vals T f m).take k = vals T f k := by
  refine ext_gt (by rw [List.length_take, vals_length, vals_length]; omega) fun i hi => ?_
  rw [List.length_take, vals_length] at hi
  rw [gt_take, gt_vals, gt_vals, if_pos (by omega), if_pos (by omega), if_pos (by omega)]
theorem vals_drop (T : List F) (f m k : Nat) (h : k ≤ m) : (vals T f m).drop k = vals T (f + k) (m - k) := by
  refine ext_gt (by rw [List.length_drop, vals_length, vals_length]) fun i hi => ?_
  rw [List.length_drop, vals_length] at hi
  rw [gt_drop, gt_vals, gt_vals, if_pos (by omega), if_pos (by omega), show f + (k + i) = f + k + i by omega]
/-- T is the polynomial that the first n bytes tell -/
def Tells (n : Nat) (l T : List F) : Prop := IsThrough (mkF plI n) l T
theorem Tells.unique {n : Nat} (hn : n ≤ 256) {l T T' : List F} (h : Tells n l T) (h' : Tells n l T') : T = T' := IsThrough.unique (plI_nodup n hn) h h'
theorem Tells.len {n : Nat} {l T : List F} (h : Tells n l T) : T.length ≤ n := by have := h.le; rw [mkF_length] at this; exact this
theorem Tells.vals_eq {n : Nat} {l T : List F} (h : Tells n l T) (hl : l.length = n) : vals T 0 n = l := by
  refine ext_gt (by rw [vals_length, hl]) fun i hi => ?_
  rw [vals_length] at hi
  have h1 := h.val i (by rw [mkF_length]; exact hi)
  rw [gt_mkF, if_pos hi] at h1
  rw [gt_vals, if_pos hi, Nat.zero_add, h1]
/-- a polynomial's own values tell it, of as many as it has bytes, or more -/
theorem tells_vals {n : Nat} {T : List F} (tt : tr T = T) (hl : T.length ≤ n) : Tells n (vals T 0 n) T :=
  ⟨tt, by rw [mkF_length]; exact hl, fun i hi => by
    rw [mkF_length] at hi
    rw [gt_mkF, if_pos hi, gt_vals, if_pos hi, Nat.zero_add]⟩
/-- two of them that are alike at n places are one -/
theorem same_at {n : Nat} {T T' xs : List F} (tt : tr T = T) (tt' : tr T' = T') (hl : T.length ≤ n) (hl' : T'.length ≤ n) (hx : xs.length = n) (hd : xs.Nodup) (h : ∀ x ∈ xs, ev T x = ev T' x) : T = T' := by
  have e := same_of_values n T T' xs (fun i hi => gt_ge (by omega)) (fun i hi => gt_ge (by omega)) hx hd h
  rw [← tt, ← tt', e]
end Go.Proofs.Ytbmkcnlcffnjgaa
