/-
  LAW 04's WALK: SystematicMore: it returns true, and writes nothing that was there. No conditions.
-/
import Derived.Test.YteeinbijblcgcaaLaw04a
namespace Go.Proofs.Yteeinbijblcgcaa
open Go.RowKit
set_option linter.unusedVariables false

theorem is_vals (A : Option Addr) (len c i : Nat) (T : List F) (w : World) (h : RowIn w A len c (vals T 0 len)) (tt : tr T = T) (hl : T.length ≤ i) (h1 : 1 ≤ i) (h2 : i ≤ len) (h3 : len ≤ 255) :
    Calls Try.prog 36 #[.slice A len c, .int .i64 i] w fun e w' => e = .returned (.bool true) ∧ Below w.heap.size w w' := by
  refine (Is_yes A len c i _ w h h1 h2 h3).mono ?_
  rintro e w' ⟨T', rfl, ht, hb⟩
  refine ⟨ret_bool (decide_eq_true ?_), hb⟩
  rw [vals_take _ _ _ _ h2] at ht
  have e := ht.unique (by omega) (tells_vals tt hl)
  rw [vals_drop _ _ _ _ h2, e, Nat.zero_add]
theorem and7 (x : Int) : ∃ z : Nat, z ≤ 7 ∧ bits .and .i64 x 7 = (z : Int) := by
  have h : (BitVec.ofInt 64 x &&& BitVec.ofInt 64 7).toNat ≤ 7 := by
    rw [BitVec.toNat_and]
    exact Nat.le_trans Nat.and_le_right (by decide)
  refine ⟨_, h, ?_⟩
  show IntKind.i64.wrap ((BitVec.ofInt 64 x &&& BitVec.ofInt 64 7).toNat : Int) = _
  exact IntWalk.i64_in _ (by omega)
set_option maxHeartbeats 1000000 in
theorem more_less (A : Option Addr) (n ca : Nat) (k m : Int) (w : World) (h : n = 0 ∨ 12 < n ∨ k < 0 ∨ 6 < k) (hn : n ≤ 9223372036854775807) :
    Calls Try.prog 12 #[.slice A n ca, .int .i64 k, .int .i64 m] w fun e w' => e = .returned (.bool true) ∧ Below w.heap.size w w' := by
  have hd : (n = 0) ∨ (((n : Int) == 0) = false ∧ ((12 : Int) < n)) ∨ (((n : Int) == 0) = false ∧ ¬ ((12 : Int) < n) ∧ k < 0) ∨ (((n : Int) == 0) = false ∧ ¬ ((12 : Int) < n) ∧ ¬ k < 0 ∧ 6 < k) := by
    by_cases h0 : n = 0
    · exact .inl h0
    · right
      have e0 : ((n : Int) == 0) = false := by rw [beq_eq_false_iff_ne]; omega
      by_cases h1 : 12 < n
      · exact .inl ⟨e0, by omega⟩
      · right
        by_cases h3 : k < 0
        · exact .inl ⟨e0, by omega, h3⟩
        · exact .inr ⟨e0, by omega, h3, by omega⟩
  clear h
  rcases hd with rfl | ⟨e0, e1⟩ | ⟨e0, e1, e3⟩ | ⟨e0, e1, e3, e4⟩
  all_goals
    go_enter Try.func12, Try.ntmps12
    go_wp2_with (go_at_call 28; refine (alive04_c _).mono ?_; rintro e w1 ⟨rfl, hb1⟩)
    go_ret
    exact ⟨rfl, hb1⟩
set_option maxHeartbeats 4000000 in
set_option maxRecDepth 100000 in
theorem more_main (A : Option Addr) (n ca k : Nat) (m : Int) (a : List F) (w : World) (ha : RowIn w A n ca a) (h1 : 1 ≤ n) (h2 : n ≤ 12) (h3 : k ≤ 6) :
    Calls Try.prog 12 #[.slice A n ca, .int .i64 k, .int .i64 m] w fun e w' => e = .returned (.bool true) ∧ Below w.heap.size w w' := by
  obtain ⟨i0, hi, hz0, hz1, hz2⟩ := info_parts info_u8
  obtain ⟨z, hz7, hz⟩ := and7 m
  have e0 : ((n : Int) == 0) = false := by rw [beq_eq_false_iff_ne]; omega
  have e1 : decide ((12 : Int) < n) = false := by simp; omega
  have e2 : decide ((6 : Int) < k) = false := by simp; omega
  have e3 : decide ((k : Int) < 0) = false := by simp
  have HLA := Lib.hid ha.row.len
  obtain ⟨K, hK⟩ : ∃ K, K = k + z := ⟨_, rfl⟩
  have hKi : (k : Int) + (z : Int) = (K : Int) := by omega
  have hK13 : K ≤ 13 := by omega
  have hkK : k ≤ K := by omega
  have hkK' : (k : Int) ≤ (K : Int) := by omega
  obtain ⟨N, hN⟩ : ∃ N, N = n + K := ⟨_, rfl⟩
  have hN24 : N ≤ 25 := by omega
  have hnN : n ≤ N := by omega
  have HN := Lib.hid hN
  clear hN hK
  go_enter Try.func12, Try.ntmps12
  go_wp2_with (go_at_call 28; refine (alive04_c _).mono ?_; rintro e w1 ⟨rfl, hb1⟩)
  refine (Encode_ok A n ca k a w1 (ha.below hb1) h1 (by omega)).mono ?_
  rintro e w2 ⟨g1, Ta, rfl, ho1, hta, hb2⟩
  have hB2 := hb1.trans (hb2.mono hb1.size)
  have HTA := Lib.hid hta
  have hP := Row.of_own ho1
  clear hb1 hb2 hta ho1
  go_wp2_with fail
  refine (Encode_ok A n ca K a w2 (ha.below hB2) h1 (by omega)).mono ?_
  rintro e w3 ⟨g2, Tb, rfl, ho2, htb, hb3⟩
  have hTT : Tb = Ta := htb.unique (by omega) HTA.out
  subst hTT
  have hB3 := hB2.trans (hb3.mono hB2.size)
  have hP3 := hP.below hb3
  have hQ3 := Row.of_own ho2
  have hA3 := ha.below hB3
  have hQk : Row w3 (some ⟨g2, 0, none⟩) k (vals Tb n k) := by
    have h := hQ3.take hkK
    rw [vals_take _ _ _ _ hkK] at h
    exact h
  clear hb3 htb hP ho2 hB2 ha
  go_wp2_with fail
  refine (Same_c (some ⟨g2, 0, none⟩) (some ⟨g1, 0, none⟩) k K k _ _ w3 hQk hP3 rfl).mono ?_
  rintro e _ ⟨rfl, q, rfl⟩
  have hQ4 := hQ3.drewN q
  have hA4 := hA3.drewN q
  have hB4 := below_drewN hB3 q
  clear hQ3 hA3 hB3 hP3 hQk
  generalize w3.drewN q = w4 at *
  go_wp2_with fail
  refine (Copy_c A n ca a w4 hA4.row (by omega)).mono ?_
  rintro e w5 ⟨X, cx, rfl, hX, hb5⟩
  have hl1 : Hid ((cs (vals Tb n K)).length = K * 1) := by unfold Hid; rw [cs_length, vals_length, Nat.mul_one]
  have hc5 := Lib.hid (hQ4.below hb5).cells
  go_wp2_with (at_builtin; refine wpList_append_own _ rfl (.tmp 79) (.tmp 80) 23 rfl w4.heap.size 5 i0 (.int .u8 0) 1 1 Try.underlying23 hi hz0 hz1 hz2 rfl (by decide) (.slice X n cx) n (cs a) rfl hX _ K K (cs (vals Tb n K)) rfl hl1.out hc5.out (cs_one _) (by unfold maxLen; omega) (by omega) hb5.size ?_; intro v6 w6 hown6 hgrow6 hnil6)
  have hb6 := hb5.grown hgrow6 hb5.size (fun g e => (hX.lt g e).1)
  have e6 := word_cells (k := K) HTA.out HLA.out
  rw [e6, ← HN.out] at hown6
  obtain ⟨X6, c6, rfl, -⟩ := own_shape hown6
  have hx6 := own_in hown6
  have hB6 := hB4.trans (hb6.mono hB4.size)
  have hNc : N ≤ c6 := hx6.le
  clear e6 hnil6 hgrow6 hX hb5 hc5 hb6 hown6 hA4 hB4 hQ4 hl1
  have hq := len_bytes N
  go_wp2
  go_loopw [13] (fun i wr => ∃ j : Nat, n ≤ j ∧ j ≤ N + 1 ∧ i = .int .i64 j ∧ Below w6.heap.size w6 wr) (fun i _ => N + 1 - (intOf i).toNat)
  case atStart => exact ⟨n, Nat.le_refl _, by omega, rfl, Below.refl _ _⟩
  case round =>
    obtain ⟨j, hj1, hj2, rfl, hbel⟩ := hrel
    by_cases hlt : j ≤ N
    · have hjN : (j : Int) ≤ N := by omega
      have hjc : (j : Int) ≤ c6 := by omega
      have hx7 := hx6.below hbel
      have htt := HTA.out.tt
      have htl := HTA.out.len
      go_wp2_with fail
      refine (is_vals X6 N c6 j Tb wr hx7 htt (by omega) (by omega) hlt (by omega)).mono ?_
      rintro e w8 ⟨rfl, hb8⟩
      have hx8 := hx7.below hb8
      have hB8 := hbel.trans (hb8.mono hbel.size)
      have hx9 : RowIn w8 X6 j c6 (vals Tb 0 j) := by
        have h := hx8.row.take hlt
        rw [vals_take _ _ _ _ hlt] at h
        exact ⟨h, by omega, hx8.max⟩
      clear hx7 hbel hb8 hx8
      go_wp2_with fail
      refine (is_vals X6 j c6 n Tb w8 hx9 htt htl h1 hj1 (by omega)).mono ?_
      rintro e w10 ⟨rfl, hb10⟩
      have hB10 := hB8.trans (hb10.mono hB8.size)
      clear hB8 hb10 hx9 htt htl
      go_wp2
      go_roundw
      case rel => exact ⟨j + 1, by omega, by omega, by go_num, hB10⟩
      case measure => simp [intOf]; omega
    · obtain rfl : j = N + 1 := by omega
      have hx7 := hx6.below hbel
      obtain ⟨M, hM⟩ : ∃ M, N = M + 1 := ⟨N - 1, by omega⟩
      have htl := HTA.out.len
      have eM : (N : Int) - 1 = (M : Int) := by omega
      have hMN : (M : Int) < N := by omega
      have hM25 : M ≤ 24 := by omega
      obtain ⟨b, o, rfl, lb, qb⟩ := hx7.row.at_ (k := M) (by omega)
      have hg : Hid (gt (vals Tb 0 N) M = ev Tb (plI M)) := by
        unfold Hid
        rw [gt_vals, if_pos (by omega), Nat.zero_add]
      rw [hg.out] at qb
      clear hM
      go_wp2_with fail
      refine (At_ok _ N c6 n M _ wr hx7 h1 hnN (by omega) (by omega)).mono ?_
      rintro e w9 ⟨T', rfl, ht, hb9⟩
      have hT' : T' = Tb := by
        rw [vals_take _ _ _ _ hnN] at ht
        exact ht.unique (by omega) (tells_vals HTA.out.tt htl)
      subst hT'
      have qb9 := (hb9.cell (p := ⟨b, o + M, none⟩) lb).trans qb
      have hB9 := (hB6.trans (hbel.mono hB6.size)).trans (hb9.mono (hB6.trans (hbel.mono hB6.size)).size)
      clear ht qb hx7 hb9 hbel
      go_wp2
      go_ret
      exact ⟨rfl, hB9⟩
theorem walk_SystematicMore (w : World) (A : Option Addr) (n ca : Nat) (a : List F) (ha : RowIn w A n ca a) (k : Int) (_ : (Lit.int .i64 k).wf = true) (m : Int) (_ : (Lit.int .i64 m).wf = true) :
    Calls Try.prog 12 #[.slice A n ca, .int .i64 k, .int .i64 m] w fun e w' => e = .returned (.bool true) ∧ Below w.heap.size w w' := by
  by_cases h : n = 0 ∨ 12 < n ∨ k < 0 ∨ 6 < k
  · exact more_less A n ca k m w h ha.row.max
  · obtain ⟨j, rfl⟩ : ∃ j : Nat, k = j := ⟨k.toNat, by omega⟩
    exact more_main A n ca j m a w ha (by omega) (by omega) (by omega)
end Go.Proofs.Yteeinbijblcgcaa
