/-
  LAW 04's WALK: SystematicTells: it returns true, and writes nothing that was there. No conditions.
-/
import Derived.Test.YteeinbijblcgcaaLaw04b
namespace Go.Proofs.Yteeinbijblcgcaa
open Go.RowKit
set_option linter.unusedVariables false

/-- how many of the first k are there -/
def cntT (th : List Bool) : Nat → Nat
  | 0 => 0
  | k + 1 => if gb th k = true then cntT th k + 1 else cntT th k
theorem cntT_le (th : List Bool) (k : Nat) : cntT th k ≤ k := by
  induction k with
  | zero => exact Nat.le_refl _
  | succ k ih => unfold cntT; split <;> omega
theorem fth_cnt (th : List Bool) (n k : Nat) : (fth th n k).length = min n (cntT th k) := by
  induction k with
  | zero => simp [fth, cntT]
  | succ k ih =>
    unfold fth cntT
    by_cases h : gb th k = true
    · by_cases h2 : (fth th n k).length < n
      · rw [if_pos ⟨h, h2⟩, if_pos h, List.length_append, List.length_singleton]
        omega
      · rw [if_neg (fun e => h2 e.2), if_pos h]
        omega
    · rw [if_neg (fun e => h e.1), if_neg h]
      exact ih
/-- at the places that are there a polynomial's own values tell it -/
theorem there_tells {n N : Nat} {T l : List F} {th : List Bool} (tt : tr T = T) (hl : T.length ≤ n) (hc : n ≤ (fth th n N).length) (h : ∀ i, gb th i = true → gt l i = gt (vals T 0 N) i) : IsThrough (thX th n N) (thY l th n N) T := by
  have hlen : (thX th n N).length = (fth th n N).length := thX_length _ _ _
  refine ⟨tt, by omega, fun i hi => ?_⟩
  rw [hlen] at hi
  have hm := List.getElem_mem hi
  have h1 : gt (thX th n N) i = plI (fth th n N)[i] := by
    rw [gt_lt (by rw [hlen]; exact hi)]
    simp [thX]
  have h2 : gt (thY l th n N) i = gt l (fth th n N)[i] := by
    rw [gt_lt (by rw [thY_length]; exact hi)]
    simp [thY]
  rw [h1, h2, h _ (fth_there th n N _ hm), gt_vals, if_pos (fth_lt th n N _ hm), Nat.zero_add]
set_option maxHeartbeats 1000000 in
theorem tells_less (A B : Option Addr) (n ca m cb : Nat) (k : Int) (w : World) (h : n = 0 ∨ 12 < n ∨ k < 0 ∨ 12 < k ∨ (m : Int) ≠ n + k) (hn : n ≤ 9223372036854775807) (hm : m ≤ 9223372036854775807) :
    Calls Try.prog 10 #[.slice A n ca, .int .i64 k, .slice B m cb] w fun e w' => e = .returned (.bool true) ∧ Below w.heap.size w w' := by
  have hd : (n = 0) ∨ (((n : Int) == 0) = false ∧ ((12 : Int) < n)) ∨ (((n : Int) == 0) = false ∧ ¬ ((12 : Int) < n) ∧ k < 0) ∨ (((n : Int) == 0) = false ∧ ¬ ((12 : Int) < n) ∧ ¬ k < 0 ∧ 12 < k) ∨ (((n : Int) == 0) = false ∧ ¬ ((12 : Int) < n) ∧ ¬ k < 0 ∧ ¬ 12 < k ∧ ((m : Int) != (n : Int) + k) = true) := by
    by_cases h0 : n = 0
    · exact .inl h0
    · right
      have e0 : ((n : Int) == 0) = false := by rw [beq_eq_false_iff_ne]; omega
      by_cases h1 : 12 < n
      · exact .inl ⟨e0, by omega⟩
      · right
        by_cases h3 : k < 0
        · exact .inl ⟨e0, by omega, h3⟩
        · right
          by_cases h4 : 12 < k
          · exact .inl ⟨e0, by omega, h3, h4⟩
          · exact .inr ⟨e0, by omega, h3, h4, by rw [bne_iff_ne]; omega⟩
  clear h
  rcases hd with rfl | ⟨e0, e1⟩ | ⟨e0, e1, e3⟩ | ⟨e0, e1, e3, e4⟩ | ⟨e0, e1, e3, e4, e5⟩
  all_goals
    go_enter Try.func10, Try.ntmps10
    go_wp2_with (go_at_call 28; refine (alive04_c _).mono ?_; rintro e w1 ⟨rfl, hb1⟩)
    go_ret
    exact ⟨rfl, hb1⟩
set_option maxHeartbeats 4000000 in
set_option maxRecDepth 100000 in
theorem tells_main (A B : Option Addr) (n ca N cb k : Nat) (a : List F) (th : List Bool) (w : World) (ha : RowIn w A n ca a) (hb : BRow w B N th) (h1 : 1 ≤ n) (h2 : n ≤ 12) (h3 : k ≤ 12) (hN : N = n + k) :
    Calls Try.prog 10 #[.slice A n ca, .int .i64 k, .slice B N cb] w fun e w' => e = .returned (.bool true) ∧ Below w.heap.size w w' := by
  obtain ⟨i0, hi, hz0, hz1, hz2⟩ := info_parts info_u8
  have e0 : ((n : Int) == 0) = false := by rw [beq_eq_false_iff_ne]; omega
  have e1 : decide ((12 : Int) < n) = false := by simp; omega
  have e2 : decide ((12 : Int) < k) = false := by simp; omega
  have e3 : decide ((k : Int) < 0) = false := by simp
  have hNi : (n : Int) + (k : Int) = (N : Int) := by omega
  have HLA := Lib.hid ha.row.len
  have hN24 : N ≤ 24 := by omega
  have hnN : n ≤ N := by omega
  have HN := Lib.hid hN
  clear hN
  go_enter Try.func10, Try.ntmps10
  go_wp2_with (go_at_call 28; refine (alive04_c _).mono ?_; rintro e w1 ⟨rfl, hb1⟩)
  refine (Encode_ok A n ca k a w1 (ha.below hb1) h1 (by omega)).mono ?_
  rintro e w2 ⟨g1, T, rfl, ho1, hta, hb2⟩
  have hB2 := hb1.trans (hb2.mono hb1.size)
  have HTA := Lib.hid hta
  have hP := Row.of_own ho1
  have hA2 := ha.below hB2
  have hbB2 := hb.below hB2
  clear hb1 hb2 hta ho1 ha hb
  go_wp2_with fail
  refine (Copy_c A n ca a w2 hA2.row (by omega)).mono ?_
  rintro e w3 ⟨X, cx, rfl, hX, hb3⟩
  have hl1 : Hid ((cs (vals T n k)).length = k * 1) := by unfold Hid; rw [cs_length, vals_length, Nat.mul_one]
  have hc3 := Lib.hid (hP.below hb3).cells
  go_wp2_with (at_builtin; refine wpList_append_own _ rfl (.tmp 50) (.tmp 51) 23 rfl w2.heap.size 5 i0 (.int .u8 0) 1 1 Try.underlying23 hi hz0 hz1 hz2 rfl (by decide) (.slice X n cx) n (cs a) rfl hX _ k k (cs (vals T n k)) rfl hl1.out hc3.out (cs_one _) (by unfold maxLen; omega) (by omega) hb3.size ?_; intro v4 w4 hown4 hgrow4 hnil4)
  have hb4 := hb3.grown hgrow4 hb3.size (fun g e => (hX.lt g e).1)
  have e4 := word_cells (k := k) HTA.out HLA.out
  rw [e4, ← HN.out] at hown4
  obtain ⟨X4, c4, rfl, -⟩ := own_shape hown4
  have hx4 := own_in hown4
  have hB4 := hB2.trans (hb4.mono hB2.size)
  have hbB4 := hbB2.below hb4
  clear e4 hnil4 hgrow4 hX hb3 hc3 hb4 hown4 hA2 hB2 hP hl1 hbB2
  have hq := len_bytes N
  go_wp2_with fail
  go_simp
  go_wp2_with fail
  refine (is_vals X4 N c4 n T w4 hx4 HTA.out.tt HTA.out.len h1 hnN (by omega)).mono ?_
  rintro e w5 ⟨rfl, hb5⟩
  have hx5 := hx4.below hb5
  have hbB5 := hbB4.below hb5
  have hB5 := hB4.trans (hb5.mono hB4.size)
  clear hx4 hbB4 hB4 hb5
  go_wp2_with fail
  refine (Copy_c X4 N c4 _ w5 hx5.row (by omega)).mono ?_
  rintro e w6 ⟨Z, cz, rfl, hZ, hb6⟩
  obtain ⟨gz, rfl, hz1', hz2'⟩ := own_at hZ (by omega)
  go_wp2
  obtain ⟨x, hx⟩ : ∃ x, x = vals T 0 N := ⟨_, rfl⟩
  have HX := Lib.hid hx
  rw [← hx] at hx5 hZ
  clear hx
  go_loopw [11, 69] (fun vl i wr => ∃ (j : Nat) (h : List F), j ≤ N ∧ i = .int .i64 j ∧ vl = .int .i64 (cntT th j) ∧ wr.ownsRow w5.heap.size 5 1 (.slice (some ⟨gz, 0, none⟩) N cz) N (cs h) ∧ Below w5.heap.size w5 wr ∧ Hid (∀ i, gb th i = true → gt h i = gt x i)) (fun _ i _ => N - (intOf i).toNat)
  case atStart => exact ⟨0, x, by omega, rfl, rfl, hZ, hb6, fun i _ => rfl⟩
  case round =>
    clear hZ hb6 hz2'
    obtain ⟨j, h, hj, rfl, rfl, hown, hbel, hh⟩ := hrel
    by_cases hlt : j < N
    · have hjN : (j : Int) < N := by omega
      have hcj := cntT_le th j
      obtain ⟨b2, o2, e2, l2, q2⟩ := hbB5.at_ hlt
      subst e2
      replace q2 := (hbel.cell (p := ⟨b2, o2 + j, none⟩) l2).trans q2
      cases hg : gb th j with
      | true =>
        rw [hg] at q2
        have hc : Hid (cntT th (j + 1) = cntT th j + 1) := if_pos hg
        clear hg
        go_wp2
        go_roundw
        case rel => exact ⟨j + 1, h, by omega, by go_num, by rw [hc.out]; go_num, hown, hbel, hh⟩
        case measure => simp [intOf]; omega
      | false =>
        rw [hg] at q2
        have hc : Hid (cntT th (j + 1) = cntT th j) := if_neg (by rw [hg]; exact Bool.false_ne_true)
        have hlen := own_len hown
        have hq1 := hown.cellAt j (by omega)
        rw [cs_at (by omega)] at hq1
        have hf := hown.frozenAt j
        have hxr := bits_xor (gt h j) (ofN 90)
        rw [show ((ofN 90).n : Int) = 90 by decide] at hxr
        have hst := Lib.hid (hown.stored j (.int .u8 (gt h j + ofN 90).n)).1
        have hh2 : Hid (∀ i, gb th i = true → gt (h.set j (gt h j + ofN 90)) i = gt x i) := fun i hi => by
          rw [gt_set _ _ _ _ (by omega), if_neg (fun e => by rw [e, hg] at hi; cases hi)]
          exact hh.out i hi
        clear hg hlen
        go_wp2
        go_roundw
        case rel =>
          refine ⟨j + 1, _, by omega, by go_num, by rw [hc.out], ?_, hbel.setCell hz1' _, hh2⟩
          have h := hst.out
          rw [cs_set] at h
          exact h
        case measure => simp [intOf]; omega
    · obtain rfl : j = N := by omega
      have hx7 := hx5.row.below hbel
      have hb7 := hbB5.below hbel
      have hr7 := Row.of_own hown
      have hB7 := hB5.trans (hbel.mono hB5.size)
      have hcj := cntT_le th j
      have hcnt := fth_cnt th n j
      clear hown hbel hx5 hbB5
      by_cases hc : n ≤ cntT th j
      · have hc' : decide ((cntT th j : Int) < n) = false := by simp; omega
        have hci : (n : Int) ≤ (cntT th j : Int) := by omega
        have HF := Lib.hid (show n ≤ (fth th n j).length by omega)
        clear hcnt hc
        go_wp2_with fail
        refine (Fill_ok _ B j cz cb n h th wr hr7 hb7 h1 hnN (by omega) HF.out).mono ?_
        rintro e w8 ⟨g8, T', rfl, ho8, ht8, hb8⟩
        have hT : T' = T := ht8.unique (thX_nodup _ _ _ (by omega)) (there_tells HTA.out.tt HTA.out.len HF.out fun i hi => by rw [hh.out i hi, HX.out])
        subst hT
        have hr8 := Row.of_own ho8
        have hx8 := hx7.below hb8
        have hB8 := hB7.trans (hb8.mono hB7.size)
        clear ht8 ho8 hb8 hx7 hr7 hb7 hB7
        go_wp2_with fail
        refine (Same_c _ X4 j j c4 _ _ w8 hr8 hx8 HX.out.symm).mono ?_
        rintro e _ ⟨rfl, q, rfl⟩
        go_wp2
        go_ret
        exact ⟨rfl, below_drewN hB8 q⟩
      · have hci : (cntT th j : Int) < n := by omega
        have HF := Lib.hid (show (fth th n j).length < n by omega)
        clear hcnt hc
        go_wp2_with fail
        refine (Fill_lost _ B j cz cb n h th wr hr7 hb7 h1 hnN (by omega) HF.out).mono ?_
        rintro e w8 ⟨rfl, hb8⟩
        have hB8 := hB7.trans (hb8.mono hB7.size)
        clear hb8 hx7 hr7 hb7 hB7
        go_wp2
        go_ret
        exact ⟨rfl, hB8⟩
theorem walk_SystematicTells (w : World) (A : Option Addr) (n ca : Nat) (a : List F) (ha : RowIn w A n ca a) (k : Int) (_ : (Lit.int .i64 k).wf = true) (B : Option Addr) (m cb : Nat) (th : List Bool) (hb : BRow w B m th) :
    Calls Try.prog 10 #[.slice A n ca, .int .i64 k, .slice B m cb] w fun e w' => e = .returned (.bool true) ∧ Below w.heap.size w w' := by
  by_cases h : n = 0 ∨ 12 < n ∨ k < 0 ∨ 12 < k ∨ (m : Int) ≠ n + k
  · exact tells_less A B n ca m cb k w h ha.row.max hb.max
  · obtain ⟨j, rfl⟩ : ∃ j : Nat, k = j := ⟨k.toNat, by omega⟩
    exact tells_main A B n ca m cb j a th w ha hb (by omega) (by omega) (by omega) (by omega)
end Go.Proofs.Yteeinbijblcgcaa
