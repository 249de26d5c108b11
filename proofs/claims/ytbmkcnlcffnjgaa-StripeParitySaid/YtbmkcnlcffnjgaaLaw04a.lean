/-
  LAW 04's WALK: SystematicFar: it returns true, and writes nothing that was there. No conditions.
-/
import Derived.Test.YtbmkcnlcffnjgaaLaw04
namespace Go.Proofs.Ytbmkcnlcffnjgaa
open Go.RowKit
set_option maxRecDepth 100000
set_option linter.unusedVariables false

/-- where two rows are alike, of the first k places -/
def agr (x y : List F) : Nat → List Nat
  | 0 => []
  | k + 1 => if gt x k = gt y k then agr x y k ++ [k] else agr x y k
theorem agr_le (x y : List F) (k : Nat) : (agr x y k).length ≤ k := by
  induction k with
  | zero => exact Nat.le_refl _
  | succ k ih =>
    unfold agr
    split
    · rw [List.length_append]; simp; omega
    · omega
theorem agr_lt (x y : List F) (k : Nat) : ∀ i ∈ agr x y k, i < k ∧ gt x i = gt y i := by
  induction k with
  | zero => intro i hi; cases hi
  | succ k ih =>
    intro i hi
    unfold agr at hi
    split at hi
    · rename_i h
      rw [List.mem_append, List.mem_singleton] at hi
      rcases hi with hi | hi
      · have := ih i hi; exact ⟨by omega, this.2⟩
      · subst hi; exact ⟨by omega, h⟩
    · have := ih i hi; exact ⟨by omega, this.2⟩
theorem agr_nodup (x y : List F) (k : Nat) : (agr x y k).Nodup := by
  induction k with
  | zero => exact List.nodup_nil
  | succ k ih =>
    unfold agr
    split
    · rw [List.nodup_append]
      refine ⟨ih, by simp, fun a ha b hb => ?_⟩
      rw [List.mem_singleton] at hb
      have := (agr_lt x y k a ha).1
      omega
    · exact ih
theorem pl_nodup {l : List Nat} (h : l.Nodup) (hl : ∀ i ∈ l, i < 256) : (l.map plI).Nodup := by
  refine List.Pairwise.map plI ?_ (List.Pairwise.imp_of_mem (R := (· ≠ ·)) (S := fun a b => a ≠ b ∧ a < 256 ∧ b < 256) ?_ h)
  · rintro a b ⟨h1, h2, h3⟩ e
    have := congrArg F.n e
    rw [plI_lt h2, plI_lt h3] at this
    exact h1 this
  · intro a b ha hb hne
    exact ⟨hne, hl a ha, hl b hb⟩
/-- TWO UNLIKE CODEWORDS DIFFER AT MORE THAN k PLACES -/
theorem far {n k : Nat} {a b Ta Tb : List F} (hn : n + k ≤ 255) (ha : Tells n a Ta) (hb : Tells n b Tb) (hla : a.length = n) (hlb : b.length = n) (hne : a ≠ b) {f : Nat} (hf : f + (agr (vals Ta 0 (n + k)) (vals Tb 0 (n + k)) (n + k)).length = n + k) : k < f := by
  rcases Nat.lt_or_ge k f with h | h
  · exact h
  · exfalso
    obtain ⟨ag, hag⟩ : ∃ ag, ag = agr (vals Ta 0 (n + k)) (vals Tb 0 (n + k)) (n + k) := ⟨_, rfl⟩
    rw [← hag] at hf
    have hl : n ≤ ag.length := by omega
    have hlt : ∀ i ∈ ag, i < n + k ∧ gt (vals Ta 0 (n + k)) i = gt (vals Tb 0 (n + k)) i := by rw [hag]; exact agr_lt _ _ _
    have hT : Ta = Tb := by
      refine same_at ha.tt hb.tt ha.len hb.len (xs := (ag.take n).map plI) (by rw [List.length_map, List.length_take]; omega) (pl_nodup ((agr_nodup _ _ _ : (agr (vals Ta 0 (n + k)) (vals Tb 0 (n + k)) (n + k)).Nodup).sublist (by rw [← hag]; exact List.take_sublist _ _)) fun i hi => ?_) fun x hx => ?_
      · have := (hlt i (List.mem_of_mem_take hi)).1; omega
      · obtain ⟨i, hi, rfl⟩ := List.mem_map.1 hx
        obtain ⟨h1, h2⟩ := hlt i (List.mem_of_mem_take hi)
        rw [gt_vals, gt_vals, if_pos h1, if_pos h1, Nat.zero_add] at h2
        exact h2
    exact hne (by rw [← ha.vals_eq hla, ← hb.vals_eq hlb, hT])
theorem sum_vals (Ta Tb : List F) (N : Nat) : mkF (fun i => gt (vals Ta 0 N) i + gt (vals Tb 0 N) i) N = vals (tr (padd Ta Tb)) 0 N := by
  refine ext_gt (by rw [mkF_length, vals_length]) fun i hi => ?_
  rw [mkF_length] at hi
  rw [gt_mkF, gt_vals, gt_vals, gt_vals, if_pos hi, if_pos hi, if_pos hi, if_pos hi, ev_tr, ev_padd]
/-- a sum of codewords is one -/
theorem sum_is {n k : Nat} {Ta Tb T : List F} (hn : n ≤ 256) (ha : Ta.length ≤ n) (hb : Tb.length ≤ n) (ht : Tells n ((vals (tr (padd Ta Tb)) 0 (n + k)).take n) T) : vals T n (n + k - n) = (vals (tr (padd Ta Tb)) 0 (n + k)).drop n := by
  rw [vals_take _ _ _ _ (by omega)] at ht
  have hl := tr_le (padd Ta Tb)
  rw [padd_length] at hl
  have e := ht.unique hn (tells_vals (tr_tr _) (by omega))
  rw [vals_drop _ _ _ _ (by omega), e, Nat.zero_add]
/-- data, and what follows -/
theorem word_cells {n k : Nat} {l T : List F} (ht : Tells n l T) (hl : l.length = n) : cs l ++ cs (vals T n k) = cs (vals T 0 (n + k)) := by
  rw [← cs_append, ← vals_append, ht.vals_eq hl, Nat.zero_add]
theorem len_bytes (n : Nat) (p : Option Addr) (c : Nat) (w : World) : Sem.run Try.prog (Builtin.len_ #[22] 3 #[Value.slice p n c]) w = .ok (.int .i64 n) w := by
  simp [go_sem]
end Go.Proofs.Ytbmkcnlcffnjgaa
