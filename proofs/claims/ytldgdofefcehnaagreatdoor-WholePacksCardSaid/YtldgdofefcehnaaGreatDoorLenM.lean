/-
  PURE: coins, packed two by two and merged tier by tier: what is bought weighs the least, and its lengths are full. No conditions.
-/
import Derived.Test.YtldgdofefcehnaaGreatDoorBase
namespace Go.Proofs.YtldgdofefcehnaaGreatDoor
set_option linter.unusedVariables false
def pairsC : List (Nat × Bool) → List Nat
 | a :: b :: r => (a.1 + b.1) :: pairsC r
 | _ => []
def mergeC : List Nat → List Nat → List (Nat × Bool)
 | [], B => B.map (·, false)
 | a :: A, [] => (a :: A).map (·, true)
 | a :: A, b :: B => if a ≤ b then (a, true) :: mergeC A (b :: B) else (b, false) :: mergeC (a :: A) B
termination_by A B => A.length + B.length
def tierC (W : List Nat) : Nat → List (Nat × Bool)
 | 0 => W.map (·, true)
 | t + 1 => mergeC W (pairsC (tierC W t))
def wsum (T : List (Nat × Bool)) : Nat := (T.map (·.1)).sum
def lcn (T : List (Nat × Bool)) : Nat := T.countP (·.2)
def Srt (l : List Nat) : Prop := l.Pairwise (· ≤ ·)
theorem mergeC_nil (B : List Nat) : mergeC [] B = B.map (·, false) := by rw [mergeC]
theorem mergeC_nil2 (A : List Nat) : mergeC A [] = A.map (·, true) := by
 cases A with
 | nil => rw [mergeC]; rfl
 | cons a A => rw [mergeC]
theorem mergeC_cons (a b : Nat) (A B : List Nat) : mergeC (a :: A) (b :: B) = if a ≤ b then (a, true) :: mergeC A (b :: B) else (b, false) :: mergeC (a :: A) B := by rw [mergeC]
theorem wsum_cons (c : Nat × Bool) (T : List (Nat × Bool)) : wsum (c :: T) = c.1 + wsum T := rfl
theorem lcn_cons (c : Nat × Bool) (T : List (Nat × Bool)) : lcn (c :: T) = lcn T + if c.2 then 1 else 0 := by
 unfold lcn
 rw [List.countP_cons]
theorem mergeC_length (A B : List Nat) : (mergeC A B).length = A.length + B.length := by
 induction A, B using mergeC.induct with
 | case1 B => rw [mergeC_nil, List.length_map, List.length_nil, Nat.zero_add]
 | case2 a A => rw [mergeC_nil2, List.length_map, List.length_nil, Nat.add_zero]
 | case3 a A b B h ih => rw [mergeC_cons, if_pos h, List.length_cons, ih, List.length_cons, List.length_cons]; omega
 | case4 a A b B h ih => rw [mergeC_cons, if_neg h, List.length_cons, ih, List.length_cons, List.length_cons]; omega
theorem pairsC_length : ∀ T : List (Nat × Bool), (pairsC T).length = T.length / 2
 | [] => rfl
 | [_] => by show (0 : Nat) = 1 / 2; decide
 | a :: b :: r => by
  show (pairsC r).length + 1 = (r.length + 1 + 1) / 2
  rw [pairsC_length r]
  omega
theorem map_all (b : Bool) (l : List Nat) (k : Nat) : wsum ((l.map (·, b)).take k) = (l.take k).sum := by
 unfold wsum
 rw [← List.map_take, List.map_map]
 congr 1
 exact List.map_id' _
theorem map_lcn_true (l : List Nat) (k : Nat) : lcn ((l.map (·, true)).take k) = (l.take k).length := by
 unfold lcn
 rw [← List.map_take, List.countP_map]
 exact List.countP_eq_length.2 fun a _ => rfl
theorem map_lcn_false (l : List Nat) (k : Nat) : lcn ((l.map (·, false)).take k) = 0 := by
 unfold lcn
 rw [← List.map_take, List.countP_map]
 exact List.countP_eq_zero.2 fun a _ => by simp
theorem merge_take (A B : List Nat) : ∀ k, k ≤ A.length + B.length → ∃ a b, a + b = k ∧ a ≤ A.length ∧ b ≤ B.length ∧ lcn ((mergeC A B).take k) = a ∧ wsum ((mergeC A B).take k) = (A.take a).sum + (B.take b).sum ∧ (∀ v, (∀ c ∈ (mergeC A B).take k, c.1 ≤ v) → ∀ x ∈ A.take a, x ≤ v) := by
 induction A, B using mergeC.induct with
 | case1 B =>
  intro k hk
  refine ⟨0, k, by omega, by omega, by simpa using hk, ?_, ?_, fun v _ x hx => by simp at hx⟩
  ·rw [mergeC_nil, map_lcn_false]
  ·rw [mergeC_nil, map_all]; simp
 | case2 a A =>
  intro k hk
  rw [List.length_nil, Nat.add_zero] at hk
  refine ⟨k, 0, by omega, hk, by omega, ?_, ?_, fun v h x hx => ?_⟩
  ·rw [mergeC_nil2, map_lcn_true, List.length_take, Nat.min_eq_left hk]
  ·rw [mergeC_nil2, map_all]; simp
  ·rw [mergeC_nil2, ← List.map_take] at h
   exact h (x, true) (List.mem_map.2 ⟨x, hx, rfl⟩)
 | case3 a A b B h ih =>
  intro k hk
  rw [mergeC_cons, if_pos h]
  cases k with
  | zero => exact ⟨0, 0, rfl, Nat.zero_le _, Nat.zero_le _, rfl, rfl, fun v _ x hx => by simp at hx⟩
  | succ k =>
   obtain ⟨i, j, h1, h2, h3, h4, h5, h6⟩ := ih k (by rw [List.length_cons] at hk; omega)
   refine ⟨i + 1, j, by omega, by rw [List.length_cons]; omega, h3, ?_, ?_, fun v hv x hx => ?_⟩
   ·rw [List.take_succ_cons, lcn_cons, h4]; rfl
   ·rw [List.take_succ_cons, wsum_cons, h5, List.take_succ_cons, List.sum_cons, Nat.add_assoc]
   ·rw [List.take_succ_cons] at hv hx
    rw [List.mem_cons] at hx
    rcases hx with rfl | hx
    ·exact hv (x, true) (List.mem_cons_self ..)
    ·exact h6 v (fun c hc => hv c (List.mem_cons_of_mem _ hc)) x hx
 | case4 a A b B h ih =>
  intro k hk
  rw [mergeC_cons, if_neg h]
  cases k with
  | zero => exact ⟨0, 0, rfl, Nat.zero_le _, Nat.zero_le _, rfl, rfl, fun v _ x hx => by simp at hx⟩
  | succ k =>
   obtain ⟨i, j, h1, h2, h3, h4, h5, h6⟩ := ih k (by simp only [List.length_cons] at hk ⊢; omega)
   refine ⟨i, j + 1, by omega, h2, by rw [List.length_cons]; omega, ?_, ?_, fun v hv x hx => ?_⟩
   ·rw [List.take_succ_cons, lcn_cons, h4]; rfl
   ·rw [List.take_succ_cons, wsum_cons, h5, show (b :: B).take (j + 1) = b :: B.take j from rfl, List.sum_cons]; omega
   ·rw [List.take_succ_cons] at hv
    exact h6 v (fun c hc => hv c (List.mem_cons_of_mem _ hc)) x hx
theorem sum_take_succ {l : List Nat} {b : Nat} (h : b < l.length) : (l.take (b + 1)).sum = (l.take b).sum + l[b] := by
 rw [List.take_succ_eq_append_getElem h, List.sum_append]
 simp
theorem sum_take_ge {l : List Nat} {x b : Nat} (h : ∀ y ∈ l, x ≤ y) (hb : b < l.length) : x + (l.take b).sum ≤ (l.take (b + 1)).sum := by
 rw [sum_take_succ hb]
 have := h _ (List.getElem_mem hb)
 omega
theorem merge_least (A B : List Nat) (hA : Srt A) (hB : Srt B) : ∀ a b, a ≤ A.length → b ≤ B.length → wsum ((mergeC A B).take (a + b)) ≤ (A.take a).sum + (B.take b).sum := by
 induction A, B using mergeC.induct with
 | case1 B =>
  intro a b ha hb
  rw [List.length_nil] at ha
  obtain rfl : a = 0 := by omega
  rw [mergeC_nil, map_all, Nat.zero_add]
  simp
 | case2 x A =>
  intro a b ha hb
  rw [List.length_nil] at hb
  obtain rfl : b = 0 := by omega
  rw [mergeC_nil2, map_all, Nat.add_zero]
  simp
 | case3 x A y B h ih =>
  intro a b ha hb
  have hA2 : Srt A := (List.pairwise_cons.1 hA).2
  have ih := ih hA2 hB
  rw [mergeC_cons, if_pos h]
  cases a with
  | zero =>
   cases b with
   | zero => exact Nat.le_refl _
   | succ b =>
    have h1 := ih 0 b (Nat.zero_le _) (by omega)
    have h2 : ∀ z ∈ y :: B, x ≤ z := fun z hz => by
     rw [List.mem_cons] at hz
     rcases hz with rfl | hz
     ·exact h
     ·exact Nat.le_trans h ((List.pairwise_cons.1 hB).1 z hz)
    have h3 := sum_take_ge h2 (show b < (y :: B).length by omega)
    rw [Nat.zero_add] at h1
    rw [show 0 + (b + 1) = b + 1 by omega, List.take_succ_cons, wsum_cons]
    simp only [List.take_zero, List.sum_nil, Nat.zero_add] at h1 ⊢
    omega
  | succ a =>
   have h1 := ih a b (by rw [List.length_cons] at ha; omega) hb
   rw [show a + 1 + b = a + b + 1 by omega, List.take_succ_cons, wsum_cons, List.take_succ_cons, List.sum_cons]
   show x + _ ≤ _
   omega
 | case4 x A y B h ih =>
  intro a b ha hb
  have hB2 : Srt B := (List.pairwise_cons.1 hB).2
  have ih := ih hA hB2
  rw [mergeC_cons, if_neg h]
  cases b with
  | zero =>
   cases a with
   | zero => exact Nat.le_refl _
   | succ a =>
    have h1 := ih a 0 (by omega) (Nat.zero_le _)
    have h2 : ∀ z ∈ x :: A, y ≤ z := fun z hz => by
     rw [List.mem_cons] at hz
     rcases hz with rfl | hz
     ·omega
     ·have := (List.pairwise_cons.1 hA).1 z hz; omega
    have h3 := sum_take_ge h2 (show a < (x :: A).length by omega)
    rw [Nat.add_zero] at h1
    rw [show a + 1 + 0 = a + 1 by omega, List.take_succ_cons, wsum_cons]
    simp only [List.take_zero, List.sum_nil, Nat.add_zero] at h1 ⊢
    omega
  | succ b =>
   have h1 := ih a b ha (by rw [List.length_cons] at hb; omega)
   rw [show a + (b + 1) = a + b + 1 by omega, List.take_succ_cons, wsum_cons, show (y :: B).take (b + 1) = y :: B.take b from rfl, List.sum_cons]
   show y + _ ≤ _
   omega
theorem merge_mem (A B : List Nat) : ∀ c ∈ mergeC A B, c.1 ∈ A ∨ c.1 ∈ B := by
 induction A, B using mergeC.induct with
 | case1 B => intro c hc; rw [mergeC_nil] at hc; obtain ⟨x, hx, rfl⟩ := List.mem_map.1 hc; exact .inr hx
 | case2 a A => intro c hc; rw [mergeC_nil2] at hc; obtain ⟨x, hx, rfl⟩ := List.mem_map.1 hc; exact .inl hx
 | case3 a A b B h ih =>
  intro c hc
  rw [mergeC_cons, if_pos h, List.mem_cons] at hc
  rcases hc with rfl | hc
  ·exact .inl (List.mem_cons_self ..)
  ·rcases ih c hc with h1 | h1
   ·exact .inl (List.mem_cons_of_mem _ h1)
   ·exact .inr h1
 | case4 a A b B h ih =>
  intro c hc
  rw [mergeC_cons, if_neg h, List.mem_cons] at hc
  rcases hc with rfl | hc
  ·exact .inr (List.mem_cons_self ..)
  ·rcases ih c hc with h1 | h1
   ·exact .inl h1
   ·exact .inr (List.mem_cons_of_mem _ h1)
def SrtC (T : List (Nat × Bool)) : Prop := T.Pairwise fun c d => c.1 ≤ d.1
theorem merge_srt (A B : List Nat) (hA : Srt A) (hB : Srt B) : SrtC (mergeC A B) := by
 induction A, B using mergeC.induct with
 | case1 B => rw [mergeC_nil]; exact List.pairwise_map.2 hB
 | case2 a A => rw [mergeC_nil2]; exact List.pairwise_map.2 hA
 | case3 a A b B h ih =>
  rw [mergeC_cons, if_pos h]
  refine List.pairwise_cons.2 ⟨fun c hc => ?_, ih (List.pairwise_cons.1 hA).2 hB⟩
  show a ≤ c.1
  rcases merge_mem _ _ c hc with h1 | h1
  ·exact (List.pairwise_cons.1 hA).1 _ h1
  ·rw [List.mem_cons] at h1
   rcases h1 with h1 | h1
   ·omega
   ·have := (List.pairwise_cons.1 hB).1 _ h1; omega
 | case4 a A b B h ih =>
  rw [mergeC_cons, if_neg h]
  refine List.pairwise_cons.2 ⟨fun c hc => ?_, ih hA (List.pairwise_cons.1 hB).2⟩
  show b ≤ c.1
  rcases merge_mem _ _ c hc with h1 | h1
  ·rw [List.mem_cons] at h1
   rcases h1 with h1 | h1
   ·omega
   ·have := (List.pairwise_cons.1 hA).1 _ h1; omega
  ·exact (List.pairwise_cons.1 hB).1 _ h1
theorem pairs_take : ∀ (T : List (Nat × Bool)) (m : Nat), 2 * m ≤ T.length → ((pairsC T).take m).sum = wsum (T.take (2 * m))
 | [], m, h => by
  rw [List.length_nil] at h
  obtain rfl : m = 0 := by omega
  rfl
 | [_], m, h => by
  simp only [List.length_cons, List.length_nil] at h
  obtain rfl : m = 0 := by omega
  rfl
 | a :: b :: r, 0, h => rfl
 | a :: b :: r, m + 1, h => by
  have h1 := pairs_take r m (by simp only [List.length_cons] at h; omega)
  rw [show 2 * (m + 1) = 2 * m + 1 + 1 by omega, List.take_succ_cons, List.take_succ_cons, wsum_cons, wsum_cons, show pairsC (a :: b :: r) = (a.1 + b.1) :: pairsC r from rfl, List.take_succ_cons, List.sum_cons, h1]
  omega
theorem pairs_ge : ∀ {T : List (Nat × Bool)} {v : Nat}, (∀ c ∈ T, v ≤ c.1) → ∀ x ∈ pairsC T, v + v ≤ x
 | [], v, h, x, hx => by cases hx
 | [_], v, h, x, hx => by cases hx
 | a :: b :: r, v, h, x, hx => by
  have h1 := h a (List.mem_cons_self ..)
  have h2 := h b (List.mem_cons_of_mem _ (List.mem_cons_self ..))
  rcases List.mem_cons.1 hx with rfl | hx
  ·omega
  ·exact pairs_ge (fun c hc => h c (List.mem_cons_of_mem _ (List.mem_cons_of_mem _ hc))) x hx
theorem pairs_srt : ∀ {T : List (Nat × Bool)}, SrtC T → Srt (pairsC T)
 | [], _ => List.Pairwise.nil
 | [_], _ => List.Pairwise.nil
 | a :: b :: r, h => by
  obtain ⟨h1, h2⟩ := List.pairwise_cons.1 h
  obtain ⟨h3, h4⟩ := List.pairwise_cons.1 h2
  refine List.pairwise_cons.2 ⟨fun x hx => ?_, pairs_srt h4⟩
  have h5 := h1 b (List.mem_cons_self ..)
  have := pairs_ge (v := b.1) (fun c hc => h3 c hc) x hx
  omega
theorem tier_srt {W : List Nat} (hW : Srt W) : ∀ t, SrtC (tierC W t)
 | 0 => List.pairwise_map.2 hW
 | t + 1 => merge_srt _ _ hW (pairs_srt (tier_srt hW t))
theorem tier_length (W : List Nat) : ∀ t, (tierC W (t + 1)).length = W.length + (tierC W t).length / 2 := fun t => by
 show (mergeC _ _).length = _
 rw [mergeC_length, pairsC_length]
def valN (n : Nat → Nat) : Nat → Nat
 | 0 => 0
 | t + 1 => valN n t + n t * 2 ^ t
def cosN (W : List Nat) (n : Nat → Nat) : Nat → Nat
 | 0 => 0
 | t + 1 => cosN W n t + (W.take (n t)).sum
theorem sum_take_mono (W : List Nat) {a b : Nat} (h : a ≤ b) : (W.take a).sum ≤ (W.take b).sum := by
 induction W generalizing a b with
 | nil => simp
 | cons x W ih =>
  cases a with
  | zero => simp
  | succ a =>
   cases b with
   | zero => omega
   | succ b => rw [List.take_succ_cons, List.take_succ_cons, List.sum_cons, List.sum_cons]; have := ih (show a ≤ b by omega); omega
theorem tier_least {W : List Nat} (hW : Srt W) (n : Nat → Nat) (hn : ∀ i, n i ≤ W.length) : ∀ t k, k * 2 ^ t ≤ valN n (t + 1) → k ≤ (tierC W t).length ∧ wsum ((tierC W t).take k) ≤ cosN W n (t + 1) := by
 intro t
 induction t with
 | zero =>
  intro k hk
  simp only [valN, Nat.pow_zero, Nat.mul_one, Nat.zero_add] at hk
  have h1 := hn 0
  refine ⟨by show k ≤ (W.map _).length; rw [List.length_map]; omega, ?_⟩
  show wsum ((W.map (·, true)).take k) ≤ 0 + _
  rw [map_all, Nat.zero_add]
  exact sum_take_mono W hk
 | succ t ih =>
  intro k hk
  have hN := hn (t + 1)
  have e1 : valN n (t + 1 + 1) = valN n (t + 1) + n (t + 1) * 2 ^ (t + 1) := rfl
  have e2 : cosN W n (t + 1 + 1) = cosN W n (t + 1) + (W.take (n (t + 1))).sum := rfl
  have hB := pairs_srt (tier_srt hW t)
  have hle := merge_least W (pairsC (tierC W t)) hW hB
  rw [e2, tier_length]
  by_cases hc : k ≤ n (t + 1)
  ·refine ⟨by omega, ?_⟩
   have h1 := hle k 0 (by omega) (Nat.zero_le _)
   rw [Nat.add_zero] at h1
   have h2 := sum_take_mono W hc
   show wsum ((mergeC _ _).take k) ≤ _
   simp only [List.take_zero, List.sum_nil, Nat.add_zero] at h1
   omega
  ·obtain ⟨m, hm⟩ : ∃ m, k = n (t + 1) + m := ⟨k - n (t + 1), by omega⟩
   have h1 : 2 * m * 2 ^ t ≤ valN n (t + 1) := by
    rw [hm, e1, Nat.add_mul, Nat.pow_succ] at hk
    have : 2 * m * 2 ^ t = m * (2 ^ t * 2) := by rw [Nat.mul_comm (2 ^ t) 2, ← Nat.mul_assoc, Nat.mul_comm m 2]
    omega
   obtain ⟨h2, h3⟩ := ih (2 * m) h1
   refine ⟨by omega, ?_⟩
   have h4 := hle (n (t + 1)) m hN (by rw [pairsC_length]; omega)
   rw [pairs_take _ _ h2, ← hm] at h4
   show wsum ((mergeC _ _).take k) ≤ _
   omega
def buyC (W : List Nat) : Nat → Nat → List Nat
 | 0, _ => []
 | t + 1, k => lcn ((tierC W t).take k) :: buyC W t (2 * (k - lcn ((tierC W t).take k)))
def valL : List Nat → Nat
 | [] => 0
 | a :: r => a * 2 ^ r.length + valL r
def cosL (W : List Nat) : List Nat → Nat
 | [] => 0
 | a :: r => (W.take a).sum + cosL W r
theorem buyC_length (W : List Nat) : ∀ t k, (buyC W t k).length = t := by
 intro t
 induction t with
 | zero => intro k; rfl
 | succ t ih => intro k; show (buyC W t _).length + 1 = _; rw [ih]
theorem tier_split {W : List Nat} (hW : Srt W) (t k : Nat) (hk : k ≤ (tierC W t).length) : lcn ((tierC W t).take k) ≤ k ∧ lcn ((tierC W t).take k) ≤ W.length ∧
  (match t with
   | 0 => k = lcn ((tierC W 0).take k) ∧ wsum ((tierC W 0).take k) = (W.take k).sum
   | t + 1 => 2 * (k - lcn ((tierC W (t + 1)).take k)) ≤ (tierC W t).length ∧ wsum ((tierC W (t + 1)).take k) = (W.take (lcn ((tierC W (t + 1)).take k))).sum + wsum ((tierC W t).take (2 * (k - lcn ((tierC W (t + 1)).take k))))) := by
 cases t with
 | zero =>
  have hl : k ≤ W.length := by
   have : (tierC W 0).length = W.length := List.length_map ..
   omega
  have h1 : lcn ((tierC W 0).take k) = k := by
   show lcn ((W.map (·, true)).take k) = k
   rw [map_lcn_true, List.length_take, Nat.min_eq_left hl]
  rw [h1]
  exact ⟨Nat.le_refl _, hl, rfl, map_all true W k⟩
 | succ t =>
  rw [tier_length] at hk
  obtain ⟨a, b, h1, h2, h3, h4, h5, -⟩ := merge_take W (pairsC (tierC W t)) k (by rw [pairsC_length]; exact hk)
  rw [pairsC_length] at h3
  have e : lcn ((tierC W (t + 1)).take k) = a := h4
  rw [e]
  refine ⟨by omega, h2, by omega, ?_⟩
  show wsum ((mergeC _ _).take k) = _
  rw [h5, e, show k - a = b by omega, pairs_take _ _ (by omega)]
theorem buy_all {W : List Nat} (hW : Srt W) : ∀ t k, k ≤ (tierC W t).length → valL (buyC W (t + 1) k) = k * 2 ^ t ∧ cosL W (buyC W (t + 1) k) = wsum ((tierC W t).take k) ∧ ∀ a ∈ buyC W (t + 1) k, a ≤ W.length := by
 intro t
 induction t with
 | zero =>
  intro k hk
  obtain ⟨h1, h2, h3, h4⟩ := tier_split hW 0 k hk
  have e : buyC W (0 + 1) k = [k] := by
   show [lcn ((tierC W 0).take k)] = [k]
   rw [← h3]
  rw [e]
  rw [← h3] at h2
  refine ⟨by show k * 2 ^ 0 + 0 = _; omega, by show (W.take k).sum + 0 = _; rw [h4]; rfl, fun a ha => ?_⟩
  rw [List.mem_singleton] at ha
  subst ha
  exact h2
 | succ t ih =>
  intro k hk
  obtain ⟨h1, h2, h3, h4⟩ := tier_split hW (t + 1) k hk
  have e : buyC W (t + 1 + 1) k = lcn ((tierC W (t + 1)).take k) :: buyC W (t + 1) (2 * (k - lcn ((tierC W (t + 1)).take k))) := rfl
  rw [e]
  generalize lcn ((tierC W (t + 1)).take k) = a at *
  obtain ⟨g1, g2, g3⟩ := ih _ h3
  refine ⟨?_, ?_, fun x hx => ?_⟩
  ·show a * 2 ^ (buyC W (t + 1) _).length + valL _ = _
   rw [buyC_length, g1, Nat.mul_comm 2, Nat.mul_assoc, ← Nat.pow_succ', ← Nat.add_mul]
   congr 1
   omega
  ·show _ + cosL W _ = _
   rw [g2, h4]
  ·rcases List.mem_cons.1 hx with rfl | hx
   ·exact h2
   ·exact g3 x hx
theorem merge_more (A B : List Nat) (hA : Srt A) : ∀ k b, k ≤ A.length + B.length → k = lcn ((mergeC A B).take k) + (b + 1) → ∀ v, (∀ x, B[b]? = some x → v ≤ x) → A.countP (· ≤ v) ≤ lcn ((mergeC A B).take k) := by
 induction A, B using mergeC.induct with
 | case1 B => intro k b hk hb v hv; exact Nat.zero_le _
 | case2 a A =>
  intro k b hk hb v hv
  rw [List.length_nil, Nat.add_zero] at hk
  rw [mergeC_nil2, map_lcn_true, List.length_take, Nat.min_eq_left hk] at hb
  omega
 | case3 a A b' B h ih =>
  intro k b hk hb v hv
  rw [mergeC_cons, if_pos h] at hb ⊢
  cases k with
  | zero => omega
  | succ k =>
   rw [List.take_succ_cons, lcn_cons] at hb ⊢
   rw [if_pos rfl] at hb ⊢
   have h1 := ih (List.pairwise_cons.1 hA).2 k b (by simp only [List.length_cons] at hk ⊢; omega) (by omega) v hv
   rw [List.countP_cons]
   split <;> omega
 | case4 a A b' B h ih =>
  intro k b hk hb v hv
  rw [mergeC_cons, if_neg h] at hb ⊢
  cases k with
  | zero => omega
  | succ k =>
   rw [List.take_succ_cons, lcn_cons] at hb ⊢
   rw [if_neg (by simp)] at hb ⊢
   cases b with
   | zero =>
    have h1 := hv b' rfl
    have h2 : (a :: A).countP (· ≤ v) = 0 := by
     refine List.countP_eq_zero.2 fun x hx => ?_
     rw [decide_eq_true_iff]
     rcases List.mem_cons.1 hx with rfl | hx
     ·omega
     ·have := (List.pairwise_cons.1 hA).1 x hx; omega
    rw [h2]
    exact Nat.zero_le _
   | succ b => exact ih hA k b (by simp only [List.length_cons] at hk ⊢; omega) (by omega) v (fun x hx => hv x hx)
theorem tier_few {W : List Nat} (hW : Srt W) (t k v : Nat) (hk : k ≤ (tierC W t).length) (hv : ∀ c ∈ (tierC W t).take k, c.1 ≤ v) : lcn ((tierC W t).take k) ≤ W.countP (· ≤ v) := by
 have key : ∀ a, a ≤ W.length → (∀ x ∈ W.take a, x ≤ v) → a ≤ W.countP (· ≤ v) := fun a ha h => by
  have h1 : (W.take a).countP (· ≤ v) = a := by
   rw [List.countP_eq_length.2 fun x hx => decide_eq_true (h x hx), List.length_take, Nat.min_eq_left ha]
  rw [← List.take_append_drop a W, List.countP_append, h1]
  omega
 cases t with
 | zero =>
  have hl : k ≤ W.length := by
   have : (tierC W 0).length = W.length := List.length_map ..
   omega
  have h1 : lcn ((tierC W 0).take k) = k := by
   show lcn ((W.map (·, true)).take k) = k
   rw [map_lcn_true, List.length_take, Nat.min_eq_left hl]
  rw [h1]
  refine key k hl fun x hx => ?_
  refine hv (x, true) ?_
  show (x, true) ∈ (W.map (·, true)).take k
  rw [← List.map_take]
  exact List.mem_map.2 ⟨x, hx, rfl⟩
 | succ t =>
  rw [tier_length] at hk
  obtain ⟨a, b, h1, h2, h3, h4, h5, h6⟩ := merge_take W (pairsC (tierC W t)) k (by rw [pairsC_length]; exact hk)
  have e : lcn ((tierC W (t + 1)).take k) = a := h4
  rw [e]
  exact key a h2 (h6 v hv)
theorem pairs_at : ∀ (T : List (Nat × Bool)) (m : Nat) (c d : Nat × Bool), T[2 * m]? = some c → T[2 * m + 1]? = some d → (pairsC T)[m]? = some (c.1 + d.1)
 | [], m, c, d, h, _ => by simp at h
 | [x], m, c, d, _, h => by simp at h
 | a :: b :: r, 0, c, d, h1, h2 => by
  injection h1 with h1
  injection h2 with h2
  subst h1 h2
  rfl
 | a :: b :: r, m + 1, c, d, h1, h2 => by
  rw [show 2 * (m + 1) = 2 * m + 1 + 1 by omega, List.getElem?_cons_succ, List.getElem?_cons_succ] at h1
  rw [show 2 * (m + 1) + 1 = 2 * m + 1 + 1 + 1 by omega, List.getElem?_cons_succ, List.getElem?_cons_succ] at h2
  show ((a.1 + b.1) :: pairsC r)[m + 1]? = _
  rw [List.getElem?_cons_succ]
  exact pairs_at r m c d h1 h2
theorem buy_falls {W : List Nat} (hW : Srt W) (t k : Nat) (hk : k ≤ (tierC W (t + 1)).length) : lcn ((tierC W t).take (2 * (k - lcn ((tierC W (t + 1)).take k)))) ≤ lcn ((tierC W (t + 1)).take k) := by
 obtain ⟨h1, h2, h3, -⟩ := tier_split hW (t + 1) k hk
 obtain ⟨m, hm⟩ : ∃ m, m = k - lcn ((tierC W (t + 1)).take k) := ⟨_, rfl⟩
 have h3' : 2 * m ≤ (tierC W t).length := by rw [hm]; exact h3
 rw [← hm]
 cases m with
 | zero => exact Nat.zero_le _
 | succ m =>
  have hlt : 2 * m + 1 < (tierC W t).length := by omega
  obtain ⟨c, hc⟩ : ∃ c, (tierC W t)[2 * m]? = some c := ⟨_, List.getElem?_eq_getElem (by omega)⟩
  obtain ⟨d, hd⟩ : ∃ d, (tierC W t)[2 * m + 1]? = some d := ⟨_, List.getElem?_eq_getElem hlt⟩
  have hp := pairs_at _ m c d hc hd
  have hle : ∀ x ∈ (tierC W t).take (2 * (m + 1)), x.1 ≤ d.1 := fun x hx => by
   obtain ⟨i, hi, rfl⟩ := List.getElem_of_mem hx
   rw [List.length_take] at hi
   rw [List.getElem_take]
   obtain ⟨hd1, hd2⟩ := List.getElem?_eq_some_iff.1 hd
   rw [← hd2]
   by_cases e : i = 2 * m + 1
   ·subst e; exact Nat.le_refl _
   ·exact List.pairwise_iff_getElem.1 (tier_srt hW t) i (2 * m + 1) (by omega) hd1 (by omega)
  refine Nat.le_trans (tier_few hW t _ d.1 h3' hle) ?_
  refine merge_more W (pairsC (tierC W t)) hW k m (by rw [tier_length] at hk; rw [pairsC_length]; exact hk) ?_ d.1 fun x hx => ?_
  ·have e : lcn ((mergeC W (pairsC (tierC W t))).take k) = lcn ((tierC W (t + 1)).take k) := rfl
   rw [e]
   omega
  ·rw [hp] at hx
   injection hx with hx
   omega
def Falls : List Nat → Prop
 | [] => True
 | a :: r => (∀ b ∈ r, b ≤ a) ∧ Falls r
theorem buy_falls_all {W : List Nat} (hW : Srt W) : ∀ t k, k ≤ (tierC W t).length → Falls (buyC W (t + 1) k) ∧ ∀ b ∈ buyC W (t + 1) k, b ≤ lcn ((tierC W t).take k) := by
 intro t
 induction t with
 | zero =>
  intro k hk
  refine ⟨⟨fun b hb => (by cases hb), trivial⟩, fun b hb => ?_⟩
  rw [show buyC W (0 + 1) k = [lcn ((tierC W 0).take k)] from rfl, List.mem_singleton] at hb
  rw [hb]
  exact Nat.le_refl _
 | succ t ih =>
  intro k hk
  have h1 := (tier_split hW (t + 1) k hk).2.2.1
  obtain ⟨g1, g2⟩ := ih _ h1
  have g3 := buy_falls hW t k hk
  have e : buyC W (t + 1 + 1) k = lcn ((tierC W (t + 1)).take k) :: buyC W (t + 1) (2 * (k - lcn ((tierC W (t + 1)).take k))) := rfl
  rw [e]
  refine ⟨⟨fun b hb => Nat.le_trans (g2 b hb) g3, g1⟩, fun b hb => ?_⟩
  rcases List.mem_cons.1 hb with rfl | hb
  ·exact Nat.le_refl _
  ·exact Nat.le_trans (g2 b hb) g3
def lqC : List Nat → Nat → Nat
 | [], _ => 0
 | a :: r, j => (if j < a then 1 else 0) + lqC r j
def sumF (f : Nat → Nat) : Nat → Nat
 | 0 => 0
 | k + 1 => sumF f k + f k
theorem sumF_succ (f : Nat → Nat) (k : Nat) : sumF f (k + 1) = sumF f k + f k := rfl
theorem sumF_congr {f g : Nat → Nat} {k : Nat} (h : ∀ i, i < k → f i = g i) : sumF f k = sumF g k := by
 induction k with
 | zero => rfl
 | succ k ih => unfold sumF; rw [ih fun i hi => h i (by omega), h k (by omega)]
theorem sumF_add (f g : Nat → Nat) (k : Nat) : sumF (fun i => f i + g i) k = sumF f k + sumF g k := by
 induction k with
 | zero => rfl
 | succ k ih => unfold sumF; rw [ih]; omega
theorem sumF_zero {f : Nat → Nat} {k : Nat} (h : ∀ i, i < k → f i = 0) : sumF f k = 0 := by
 induction k with
 | zero => rfl
 | succ k ih => unfold sumF; rw [ih fun i hi => h i (by omega), h k (by omega)]
theorem sumF_const (c k : Nat) : sumF (fun _ => c) k = k * c := by
 induction k with
 | zero => rw [Nat.zero_mul]; rfl
 | succ k ih => unfold sumF; rw [ih, Nat.succ_mul]
theorem sumF_below (c : Nat) (a k : Nat) (h : a ≤ k) : sumF (fun j => if j < a then c else 0) k = a * c := by
 induction k with
 | zero =>
  obtain rfl : a = 0 := by omega
  rw [Nat.zero_mul]; rfl
 | succ k ih =>
  unfold sumF
  by_cases e : a = k + 1
  ·subst e
   rw [if_pos (by omega), sumF_congr (g := fun _ => c) fun i hi => if_pos (by omega), sumF_const, Nat.succ_mul]
  ·rw [ih (by omega), if_neg (by omega)]
   rfl
theorem sum_take_sumF (W : List Nat) : ∀ a, a ≤ W.length → (W.take a).sum = sumF (fun j => W.getD j 0) a := by
 intro a
 induction a with
 | zero => intro _; rfl
 | succ a ih =>
  intro h
  have hl : a < W.length := by omega
  rw [sum_take_succ hl, ih (by omega), sumF_succ]
  simp [List.getD, hl]
theorem sumF_take (W : List Nat) (a k : Nat) (h : a ≤ k) (hk : k ≤ W.length) : sumF (fun j => W.getD j 0 * (if j < a then 1 else 0)) k = (W.take a).sum := by
 induction k with
 | zero =>
  obtain rfl : a = 0 := by omega
  rfl
 | succ k ih =>
  rw [sumF_succ]
  by_cases e : a = k + 1
  ·subst e
   rw [if_pos (by omega), Nat.mul_one, sum_take_sumF W _ hk, sumF_succ]
   congr 1
   exact sumF_congr fun i hi => by rw [if_pos (by omega), Nat.mul_one]
  ·rw [ih (by omega) (by omega), if_neg (by omega), Nat.mul_zero, Nat.add_zero]
theorem len_cost (W : List Nat) : ∀ C : List Nat, (∀ a ∈ C, a ≤ W.length) → sumF (fun j => W.getD j 0 * lqC C j) W.length = cosL W C
 | [], _ => sumF_zero fun i _ => rfl
 | a :: r, h => by
  have h1 := len_cost W r fun x hx => h x (List.mem_cons_of_mem _ hx)
  have h2 : sumF (fun j => W.getD j 0 * lqC (a :: r) j) W.length = sumF (fun j => W.getD j 0 * (if j < a then 1 else 0) + W.getD j 0 * lqC r j) W.length := sumF_congr fun i _ => by rw [← Nat.mul_add]; rfl
  rw [h2, sumF_add, h1, sumF_take W a W.length (h a (List.mem_cons_self ..)) (Nat.le_refl _)]
  rfl
theorem lenC_le : ∀ (C : List Nat) (j : Nat), lqC C j ≤ C.length
 | [], _ => Nat.le_refl _
 | a :: r, j => by
  have := lenC_le r j
  show (if j < a then 1 else 0) + lqC r j ≤ r.length + 1
  split <;> omega
theorem lenC_none : ∀ {C : List Nat} {j : Nat}, (∀ a ∈ C, a ≤ j) → lqC C j = 0
 | [], _, _ => rfl
 | a :: r, j, h => by
  have h1 := h a (List.mem_cons_self ..)
  show (if j < a then 1 else 0) + lqC r j = 0
  rw [if_neg (by omega), lenC_none fun x hx => h x (List.mem_cons_of_mem _ hx)]
theorem lenC_falls : ∀ (C : List Nat) {i j : Nat}, i ≤ j → lqC C j ≤ lqC C i
 | [], _, _, _ => Nat.le_refl _
 | a :: r, i, j, h => by
  have := lenC_falls r h
  show (if j < a then 1 else 0) + lqC r j ≤ (if i < a then 1 else 0) + lqC r i
  split
  ·rw [if_pos (by omega)]; omega
  ·omega
def indC : List Nat → Nat → Nat
 | [], _ => 0
 | a :: r, j => (if j < a then 2 ^ r.length else 0) + indC r j
theorem indC_none : ∀ {C : List Nat} {j : Nat}, (∀ a ∈ C, a ≤ j) → indC C j = 0
 | [], _, _ => rfl
 | a :: r, j, h => by
  have h1 := h a (List.mem_cons_self ..)
  show (if j < a then 2 ^ r.length else 0) + indC r j = 0
  rw [if_neg (by omega), indC_none fun x hx => h x (List.mem_cons_of_mem _ hx)]
theorem ind_len : ∀ {C : List Nat}, Falls C → ∀ j, indC C j + 2 ^ (C.length - lqC C j) = 2 ^ C.length
 | [], _, _ => rfl
 | a :: r, h, j => by
  have h1 := ind_len h.2 j
  have h2 := lenC_le r j
  by_cases e : j < a
  ·show (if j < a then 2 ^ r.length else 0) + indC r j + 2 ^ (r.length + 1 - ((if j < a then 1 else 0) + lqC r j)) = 2 ^ (r.length + 1)
   rw [if_pos e, if_pos e, show r.length + 1 - (1 + lqC r j) = r.length - lqC r j by omega, Nat.pow_succ]
   omega
  ·have h3 : ∀ x ∈ a :: r, x ≤ j := fun x hx => by
    rcases List.mem_cons.1 hx with rfl | hx
    ·omega
    ·have := h.1 x hx; omega
   rw [indC_none h3, lenC_none h3, Nat.zero_add, Nat.sub_zero]
theorem ind_sum : ∀ (C : List Nat) (N : Nat), (∀ a ∈ C, a ≤ N) → sumF (indC C) N = valL C
 | [], N, _ => sumF_zero fun i _ => rfl
 | a :: r, N, h => by
  have h1 := ind_sum r N fun x hx => h x (List.mem_cons_of_mem _ hx)
  have h2 : sumF (indC (a :: r)) N = sumF (fun j => (if j < a then 2 ^ r.length else 0) + indC r j) N := rfl
  rw [h2, sumF_add, sumF_below _ a N (h a (List.mem_cons_self ..)), show sumF (fun j => indC r j) N = sumF (indC r) N from rfl, h1]
  rfl
theorem len_kraft {C : List Nat} {N : Nat} (hC : Falls C) (h : ∀ a ∈ C, a ≤ N) : valL C + sumF (fun j => 2 ^ (C.length - lqC C j)) N = N * 2 ^ C.length := by
 rw [← ind_sum C N h, ← sumF_const (2 ^ C.length) N, ← sumF_add]
 exact sumF_congr fun i _ => ind_len hC i
def cntG (o : Nat → Nat) (d : Nat) : Nat → Nat
 | 0 => 0
 | k + 1 => cntG o d k + if d ≤ o k then 1 else 0
theorem cntG_le (o : Nat → Nat) (d k : Nat) : cntG o d k ≤ k := by
 induction k with
 | zero => exact Nat.le_refl _
 | succ k ih => unfold cntG; split <;> omega
theorem sumF_shift (f : Nat → Nat) (k : Nat) : sumF f (k + 1) = f 0 + sumF (fun j => f (j + 1)) k := by
 induction k with
 | zero => show 0 + f 0 = f 0 + 0; omega
 | succ k ih => rw [sumF_succ, ih, sumF_succ]; omega
theorem sumF_le {f g : Nat → Nat} {k : Nat} (h : ∀ i, i < k → f i ≤ g i) : sumF f k ≤ sumF g k := by
 induction k with
 | zero => exact Nat.le_refl _
 | succ k ih => rw [sumF_succ, sumF_succ]; have := ih fun i hi => h i (by omega); have := h k (by omega); omega
theorem least_of : ∀ (W : List Nat) (P : Nat → Bool), Srt W → (W.take (sumF (fun j => if P j then 1 else 0) W.length)).sum ≤ sumF (fun j => if P j then W.getD j 0 else 0) W.length ∧ sumF (fun j => if P j then 1 else 0) W.length ≤ W.length
 | [], P, _ => ⟨Nat.le_refl _, Nat.le_refl _⟩
 | x :: W, P, h => by
  obtain ⟨h1, h2⟩ := List.pairwise_cons.1 h
  obtain ⟨h3, h4⟩ := least_of W (fun j => P (j + 1)) h2
  rw [List.length_cons, sumF_shift, sumF_shift]
  have e : sumF (fun j => if P (j + 1) then (x :: W).getD (j + 1) 0 else 0) W.length = sumF (fun j => if P (j + 1) then W.getD j 0 else 0) W.length := sumF_congr fun i _ => by simp
  rw [e]
  generalize sumF (fun j => if P (j + 1) then 1 else 0) W.length = c at *
  generalize sumF (fun j => if P (j + 1) then W.getD j 0 else 0) W.length = s at *
  cases hP : P 0 with
  | true =>
   simp only [if_true]
   rw [Nat.add_comm 1 c, List.take_succ_cons, List.sum_cons]
   refine ⟨?_, by omega⟩
   show x + _ ≤ x + s
   omega
  | false =>
   simp only [Bool.false_eq_true, if_false, Nat.zero_add]
   refine ⟨?_, by omega⟩
   cases c with
   | zero => exact Nat.zero_le _
   | succ c =>
    rw [List.take_succ_cons, List.sum_cons]
    have := sum_take_ge (l := W) (x := x) (fun y hy => h1 y hy) (show c < W.length by omega)
    omega
theorem sumF_swap (f : Nat → Nat → Nat) (a b : Nat) : sumF (fun i => sumF (fun j => f i j) b) a = sumF (fun j => sumF (fun i => f i j) a) b := by
 induction a with
 | zero => exact (sumF_zero fun i _ => rfl).symm
 | succ a ih => rw [sumF_succ, ih, ← sumF_add]; rfl
theorem cntG_sumF (o : Nat → Nat) (d k : Nat) : cntG o d k = sumF (fun j => if decide (d ≤ o j) then 1 else 0) k := by
 induction k with
 | zero => rfl
 | succ k ih => rw [sumF_succ, cntG, ih]; simp
theorem sumF_mul (c : Nat) (f : Nat → Nat) (k : Nat) : sumF (fun j => c * f j) k = c * sumF f k := by
 induction k with
 | zero => rfl
 | succ k ih => rw [sumF_succ, ih, sumF_succ, Nat.mul_add]
def othN (o : Nat → Nat) (L N : Nat) (t : Nat) : Nat := cntG o (L - t) N
theorem valN_sumF (n : Nat → Nat) (t : Nat) : valN n t = sumF (fun i => n i * 2 ^ i) t := by
 induction t with
 | zero => rfl
 | succ t ih => rw [sumF_succ, valN, ih]
theorem cosN_sumF (W : List Nat) (n : Nat → Nat) (t : Nat) : cosN W n t = sumF (fun i => (W.take (n i)).sum) t := by
 induction t with
 | zero => rfl
 | succ t ih => rw [sumF_succ, cosN, ih]
theorem pow_sum (L x : Nat) (h1 : x ≤ L) : sumF (fun t => if L - t ≤ x then 2 ^ t else 0) L + 2 ^ (L - x) = 2 ^ L := by
 have key : ∀ k, k ≤ L → sumF (fun t => if L - t ≤ x then 2 ^ t else 0) k + (if L - x ≤ k then 2 ^ (L - x) else 2 ^ k) = 2 ^ k := by
  intro k
  induction k with
  | zero =>
   intro _
   by_cases e : L - x ≤ 0
   ·rw [if_pos e, show L - x = 0 by omega]; rfl
   ·rw [if_neg e]; rfl
  | succ k ih =>
   intro hk
   have h2 := ih (by omega)
   rw [sumF_succ]
   by_cases e : L - x ≤ k
   ·rw [if_pos e] at h2
    rw [if_pos (by omega), if_pos (by omega), Nat.pow_succ]
    omega
   ·rw [if_neg e] at h2
    rw [if_neg (by omega)]
    by_cases e2 : L - x ≤ k + 1
    ·rw [if_pos e2, show L - x = k + 1 by omega]; omega
    ·rw [if_neg e2]; omega
 have := key L (Nat.le_refl _)
 rw [if_pos (by omega)] at this
 exact this
theorem oth_val (o : Nat → Nat) (L N : Nat) (h : ∀ j, j < N → o j ≤ L) : valN (othN o L N) L + sumF (fun j => 2 ^ (L - o j)) N = N * 2 ^ L := by
 rw [valN_sumF]
 have e1 : sumF (fun i => othN o L N i * 2 ^ i) L = sumF (fun i => sumF (fun j => if L - i ≤ o j then 2 ^ i else 0) N) L := sumF_congr fun i _ => by
  unfold othN
  rw [cntG_sumF, Nat.mul_comm, ← sumF_mul]
  exact sumF_congr fun j _ => by
   by_cases e : L - i ≤ o j
   ·simp [e]
   ·simp [e]
 rw [e1, sumF_swap, ← sumF_add, ← sumF_const]
 exact sumF_congr fun j hj => pow_sum L (o j) (h j hj)
theorem oth_cost {W : List Nat} (hW : Srt W) (o : Nat → Nat) (L : Nat) (h : ∀ j, j < W.length → o j ≤ L) : cosN W (othN o L W.length) L ≤ sumF (fun j => W.getD j 0 * o j) W.length := by
 rw [cosN_sumF]
 have e1 : sumF (fun j => W.getD j 0 * o j) W.length = sumF (fun j => sumF (fun i => if decide (L - i ≤ o j) then W.getD j 0 else 0) L) W.length := sumF_congr fun j hj => by
  have h1 : sumF (fun i => if decide (L - i ≤ o j) then W.getD j 0 else 0) L = W.getD j 0 * sumF (fun i => if L - i ≤ o j then 1 else 0) L := by
   rw [← sumF_mul]
   exact sumF_congr fun i _ => by
    by_cases e : L - i ≤ o j
    ·simp [e]
    ·simp [e]
  rw [h1]
  congr 1
  have key : ∀ k, k ≤ L → sumF (fun i => if L - i ≤ o j then 1 else 0) k = k - (L - o j) := by
   intro k
   induction k with
   | zero => intro _; rw [Nat.zero_sub]; rfl
   | succ k ih =>
    intro hk
    rw [sumF_succ, ih (by omega)]
    split <;> omega
  have := h j hj
  rw [key L (Nat.le_refl _)]
  omega
 rw [e1, ← sumF_swap]
 exact sumF_le fun i _ => by
  unfold othN
  rw [cntG_sumF]
  exact (least_of W (fun j => decide (L - i ≤ o j)) hW).1
theorem valN_const (N t : Nat) : valN (fun _ => N) t + N = N * 2 ^ t := by
 induction t with
 | zero => show 0 + N = N * 2 ^ 0; omega
 | succ t ih => rw [valN, Nat.pow_succ, ← Nat.mul_assoc]; omega
def bestC (W : List Nat) (L : Nat) : List Nat := buyC W L (2 * W.length - 2)
theorem best_room {W : List Nat} (hW : Srt W) {t : Nat} (hN : W.length ≤ 2 ^ (t + 1)) : 2 * W.length - 2 ≤ (tierC W t).length := by
 refine (tier_least hW (fun _ => W.length) (fun _ => Nat.le_refl _) t (2 * W.length - 2) ?_).1
 have h1 := valN_const W.length (t + 1)
 have h2 : (2 * W.length - 2) * 2 ^ t = W.length * 2 ^ (t + 1) - 2 ^ (t + 1) := by
  rw [Nat.sub_mul, Nat.pow_succ]
  have : 2 * W.length * 2 ^ t = W.length * (2 ^ t * 2) := by rw [Nat.mul_comm 2 W.length, Nat.mul_assoc, Nat.mul_comm 2]
  omega
 omega
structure Best (W : List Nat) (L : Nat) (len : Nat → Nat) : Prop where
 one : ∀ j, j < W.length → 1 ≤ len j
 most : ∀ j, j < W.length → len j ≤ L
 full : sumF (fun j => 2 ^ (L - len j)) W.length = 2 ^ L
 falls : ∀ i j, i ≤ j → j < W.length → len j ≤ len i
 least : ∀ o : Nat → Nat, (∀ j, j < W.length → o j ≤ L) → sumF (fun j => 2 ^ (L - o j)) W.length ≤ 2 ^ L → sumF (fun j => W.getD j 0 * len j) W.length ≤ sumF (fun j => W.getD j 0 * o j) W.length
theorem sumF_ge_at {f : Nat → Nat} {k i : Nat} (h : i < k) : f i ≤ sumF f k := by
 induction k with
 | zero => omega
 | succ k ih =>
  rw [sumF_succ]
  by_cases e : i = k
  ·subst e; omega
  ·have := ih (by omega); omega
theorem best_all {W : List Nat} (hW : Srt W) {t : Nat} (h2 : 2 ≤ W.length) (hN : W.length ≤ 2 ^ (t + 1)) : Best W (t + 1) (lqC (bestC W (t + 1))) := by
 have hroom := best_room hW hN
 obtain ⟨hv, hc, hle⟩ := buy_all hW t (2 * W.length - 2) hroom
 obtain ⟨hf, -⟩ := buy_falls_all hW t (2 * W.length - 2) hroom
 have hlen := buyC_length W (t + 1) (2 * W.length - 2)
 have hcost := len_cost W (bestC W (t + 1)) hle
 have hkr := len_kraft hf hle
 have e1 : (2 * W.length - 2) * 2 ^ t + 2 ^ (t + 1) = W.length * 2 ^ (t + 1) := by
  have h3 : 2 * W.length - 2 + 2 = 2 * W.length := by omega
  have h4 : (2 * W.length - 2) * 2 ^ t + 2 * 2 ^ t = 2 * W.length * 2 ^ t := by rw [← Nat.add_mul, h3]
  have h5 : 2 * W.length * 2 ^ t = W.length * (2 ^ t * 2) := by rw [Nat.mul_comm 2 W.length, Nat.mul_assoc, Nat.mul_comm 2]
  rw [Nat.pow_succ]
  omega
 rw [hlen, hv] at hkr
 have hfull : sumF (fun j => 2 ^ (t + 1 - lqC (bestC W (t + 1)) j)) W.length = 2 ^ (t + 1) := by
  have : sumF (fun j => 2 ^ (t + 1 - lqC (bestC W (t + 1)) j)) W.length = sumF (fun j => 2 ^ (t + 1 - lqC (buyC W (t + 1) (2 * W.length - 2)) j)) W.length := rfl
  omega
 have hmost : ∀ j, lqC (bestC W (t + 1)) j ≤ t + 1 := fun j => by
  have := lenC_le (bestC W (t + 1)) j
  unfold bestC at this ⊢
  rw [hlen] at this
  exact this
 refine ⟨fun j hj => ?_, fun j _ => hmost j, hfull, fun i j hij _ => lenC_falls _ hij, fun o ho hk => ?_⟩
 ·by_cases h0 : lqC (bestC W (t + 1)) (W.length - 1) = 0
  ·exfalso
   obtain ⟨m, hm⟩ : ∃ m, W.length = m + 1 := ⟨W.length - 1, by omega⟩
   rw [hm, sumF_succ] at hfull
   rw [hm, Nat.add_sub_cancel] at h0
   rw [h0, Nat.sub_zero] at hfull
   have h1 : 2 ^ (t + 1 - lqC (bestC W (t + 1)) 0) ≤ sumF (fun j => 2 ^ (t + 1 - lqC (bestC W (t + 1)) j)) m := sumF_ge_at (f := fun j => 2 ^ (t + 1 - lqC (bestC W (t + 1)) j)) (show 0 < m by omega)
   have h3 : 0 < 2 ^ (t + 1 - lqC (bestC W (t + 1)) 0) := Nat.pow_pos (by decide)
   omega
  ·have := lenC_falls (bestC W (t + 1)) (show j ≤ W.length - 1 by omega)
   omega
 ·rw [hcost]
  have h3 := oth_val o (t + 1) W.length ho
  have h4 := oth_cost hW o (t + 1) ho
  have h5 : (2 * W.length - 2) * 2 ^ t ≤ valN (othN o (t + 1) W.length) (t + 1) := by omega
  have h6 := (tier_least hW (othN o (t + 1) W.length) (fun i => cntG_le _ _ _) t _ h5).2
  have h7 : cosL W (bestC W (t + 1)) = wsum ((tierC W t).take (2 * W.length - 2)) := hc
  omega
end Go.Proofs.YtldgdofefcehnaaGreatDoor
