/-
  THE WHOLE's WholeWords, as a walk (and the contract of its own example). No conditions.
-/
import Derived.Test.YtcodgamhgfafnaaLaw05c
namespace Go.Proofs.Ytcodgamhgfafnaa
open Go.RowKit
set_option maxRecDepth 100000
set_option linter.unusedVariables false

theorem fthT_cnt (th : List Bool) (n k : Nat) : (fth th n k).length = min n (cntT th k) := by
  induction k with
  | zero => simp [fth, cntT]
  | succ k ih =>
    unfold fth cntT
    by_cases h : gb th k = true
    · by_cases h2 : (fth th n k).length < n
      · rw [if_pos ⟨h, h2⟩, if_pos h, List.length_append, List.length_singleton]
        omega
      · rw [if_neg (fun e => h2 e.2), if_pos h]
        omega
    · rw [if_neg (fun e => h e.1), if_neg h]
      exact ih
/-- at the places that are there a polynomial's own values tell it -/
theorem thereT_tells {n N : Nat} {T l : List F} {th : List Bool} (tt : tr T = T) (hl : T.length ≤ n) (hc : n ≤ (fth th n N).length) (h : ∀ i, gb th i = true → gt l i = gt (vals T 0 N) i) : IsThrough (thX th n N) (thY l th n N) T := by
  have hlen : (thX th n N).length = (fth th n N).length := thX_length _ _ _
  refine ⟨tt, by omega, fun i hi => ?_⟩
  rw [hlen] at hi
  have hm := List.getElem_mem hi
  have h1 : gt (thX th n N) i = plI (fth th n N)[i] := by
    rw [gt_lt (by rw [hlen]; exact hi)]
    simp [thX]
  have h2 : gt (thY l th n N) i = gt l (fth th n N)[i] := by
    rw [gt_lt (by rw [thY_length]; exact hi)]
    simp [thY]
  rw [h1, h2, h _ (fth_there th n N _ hm), gt_vals, if_pos (fth_lt th n N _ hm), Nat.zero_add]
theorem fit_zero {P : List F} {th : List Bool} {len n : Nat} (tt : tr P = P) (hl : P.length ≤ n) : Fit (thX th len len) (thY (vals P 0 len) th len len) (cntT th len) n ((cntT th len - n) / 2) P := by
  refine ⟨tt, hl, ?_⟩
  have h1 := df_cnt (vals P 0 len) th P len len len (Nat.le_refl _) (Nat.le_refl _)
  rw [dfF_none, fth_all th len len (Nat.le_refl _)] at h1
  rw [← h1]
  exact Nat.zero_le _
theorem dfF_one {l l' : List F} {th : List Bool} {p : Nat} (hp : gb th p = true) (hne : gt l p ≠ gt l' p) (hs : ∀ i, i ≠ p → gt l i = gt l' i) (k : Nat) : dfF l th l' k = if p < k then [p] else [] := by
  induction k with
  | zero => rfl
  | succ k ih =>
    unfold dfF
    by_cases hk : k = p
    · subst hk
      rw [if_pos ⟨hp, hne⟩, ih, if_neg (by omega), if_pos (by omega)]
      rfl
    · rw [if_neg (fun e => e.2 (hs k hk)), ih]
      by_cases h2 : p < k
      · rw [if_pos h2, if_pos (by omega)]
      · rw [if_neg h2, if_neg (by omega)]
theorem fit_one5 {L P : List F} {th : List Bool} {len n : Nat} (tt : tr P = P) (hl : P.length ≤ n) (h1 : (dfF L th (vals P 0 len) len).length ≤ 1) (hc : n + 2 ≤ cntT th len) : Fit (thX th len len) (thY L th len len) (cntT th len) n ((cntT th len - n) / 2) P := by
  refine ⟨tt, hl, ?_⟩
  have h2 := df_cnt L th P len len len (Nat.le_refl _) (Nat.le_refl _)
  rw [fth_all th len len (Nat.le_refl _)] at h2
  omega
/-- where something fits, where it differs is told -/
theorem Wrong_fit (A B : Option Addr) (len ca cb N : Nat) (l P : List F) (th : List Bool) (w : World) (h : Row w A len l) (hb : BRow w B len th) (hok : DecOk len len (N : Int)) (hc : N ≤ cntT th len)
    (hP : Fit (thX th len len) (thY l th len len) (cntT th len) N ((cntT th len - N) / 2) P) :
    Calls Try.prog 10 #[.slice A len ca, .slice B len cb, .int .i64 (N : Int)] w fun e w' => ∃ D d cd, e = .returned (.tuple #[.slice D d cd, .bool true]) ∧ Hid (d = (dfF l th (vals P 0 len) len).length) ∧ w'.ownsRow w.heap.size 3 1 (.slice D d cd) d (pivC (dfF l th (vals P 0 len) len)) ∧ Below w.heap.size w w' := by
  refine (Wrong_c A B len ca cb N l th w h hb hok).mono ?_
  rintro e w' ⟨⟨D, d, cd, P', rfl, hd, hown, _, hfit⟩ | ⟨rfl, hno⟩, hbw⟩
  · have hl : (thX th len len).length = cntT th len := by rw [thX_length, fth_all th len len (Nat.le_refl _)]
    obtain ⟨-, -, -, h255⟩ := hok
    obtain rfl : P' = P := Fit.unique (fun i j hi hj => nodup_gt (thX_nodup th len len (by omega)) i j (by omega) (by omega)) (by omega) hfit hP
    exact ⟨D, d, cd, rfl, hd, hown, hbw⟩
  · exact absurd hP (hno hc P)
theorem Wrong_any (A B : Option Addr) (len ca cb N : Nat) (l : List F) (th : List Bool) (w : World) (h : Row w A len l) (hb : BRow w B len th) (hok : DecOk len len (N : Int)) :
    Calls Try.prog 10 #[.slice A len ca, .slice B len cb, .int .i64 (N : Int)] w fun e w' => ∃ D d cd g, e = .returned (.tuple #[.slice D d cd, .bool g]) ∧ Below w.heap.size w w' := by
  refine (Wrong_c A B len ca cb N l th w h hb hok).mono ?_
  rintro e w' ⟨⟨D, d, cd, P', rfl, _, _, _, _⟩ | ⟨rfl, _⟩, hbw⟩
  · exact ⟨_, _, _, _, rfl, hbw⟩
  · exact ⟨_, _, _, _, rfl, hbw⟩
/-! ### The example -/
section
variable {W : World} {g g' : Nat}
theorem exT_enc (h1 : Row W (some ⟨g, 0, none⟩) 2 [ofN 5, ofN 7]) :
    Calls Try.prog 5 #[.slice (some ⟨g, 0, none⟩) 2 2, .int .i64 2] W fun e w' => ∃ g', e = .returned (.tuple #[.slice (some ⟨g', 0, none⟩) 2 2, .int .i64 0]) ∧ Row w' (some ⟨g', 0, none⟩) 2 [ofN 1, ofN 3] ∧ Below W.heap.size W w' := by
  refine (Encode_ok _ 2 2 2 _ W h1.in_ (by omega) (by omega)).mono ?_
  rintro e w' ⟨g', T, rfl, hown, ht, hb⟩
  have e := T57 ht
  subst e
  exact ⟨g', rfl, own_r hown (by decide +kernel), hb⟩
theorem exT_thr (h1 : Row W (some ⟨g, 0, none⟩) 2 [ofN 0, ofN 1]) (h2 : Row W (some ⟨g', 0, none⟩) 2 [ofN 5, ofN 7]) :
    Calls Try.prog 11 #[.slice (some ⟨g, 0, none⟩) 2 2, .slice (some ⟨g', 0, none⟩) 2 2] W fun e w' => ∃ A t c, e = .returned (.tuple #[.slice A t c, .int .i64 0]) ∧ Row w' A t [ofN 5, ofN 2] ∧ Below W.heap.size W w' := by
  have hx : mkF plI 2 = [ofN 0, ofN 1] := by decide +kernel
  have hd : ([ofN 0, ofN 1] : List F).Nodup := by rw [← hx]; exact plI_nodup 2 (by omega)
  refine (Through_ok _ _ 2 2 2 _ _ W h1 h2 hd (by omega)).mono ?_
  rintro e w' ⟨A', t, c', T, rfl, hr, ht, hb⟩
  rw [← hx] at ht
  obtain rfl := T57 ht
  exact ⟨A', t, c', rfl, hr.row, hb⟩
end
set_option maxHeartbeats 4000000 in
theorem sound_c (w : World) : Calls Try.prog 4 #[] w fun e w' => e = .returned (.bool true) ∧ Below w.heap.size w w' := by
  have e1 : ((strB [ofN 5, ofN 7, ofN 1, ofN 3]).toList == [5, 7, 1, 3]) = true := by decide +kernel
  have e2 : ((strB [ofN 1, ofN 3]).toList == [1, 3]) = true := by decide +kernel
  have e3 : ((strB [ofN 5, ofN 2]).toList == [5, 2]) = true := by decide +kernel
  go_enter Try.func4, Try.ntmps4
  go_wp2_with fail
  refine (exT_enc (row_lit w [ofN 5, ofN 7] 2 _ rfl rfl (by unfold maxLen; simp) _ rfl _)).mono ?_
  rintro e w1 ⟨g1, rfl, hr1, hb1⟩
  have hB1 : Below w.heap.size w w1 := ((Below.refl _ _).alloc (Nat.le_refl _) _).trans (hb1.mono (by simp))
  clear hb1
  go_wp2_with fail
  have hrC : Row ((w1.alloc (.cells #[.int .u8 5, .int .u8 7, .int .u8 1, .int .u8 9] 5)).alloc (.cells #[.bool true, .bool true, .bool true, .bool true] 4)) (some ⟨w1.heap.size, 0, none⟩) 4 [ofN 5, ofN 7, ofN 1, ofN 9] := (row_lit w1 [ofN 5, ofN 7, ofN 1, ofN 9] 4 _ rfl rfl (by unfold maxLen; simp) _ rfl _).alloc _
  have hbC : BRow ((w1.alloc (.cells #[.int .u8 5, .int .u8 7, .int .u8 1, .int .u8 9] 5)).alloc (.cells #[.bool true, .bool true, .bool true, .bool true] 4)) (some ⟨w1.heap.size + 1, 0, none⟩) 4 [true, true, true, true] := brow_lit _ [true, true, true, true] 4 _ rfl (by simp) (by unfold maxLen; simp) _ rfl _
  have hr2 := (hr1.alloc (.cells #[.int .u8 5, .int .u8 7, .int .u8 1, .int .u8 9] 5)).alloc (.cells #[.bool true, .bool true, .bool true, .bool true] 4)
  have hB2 := (hB1.alloc hB1.size (.cells #[.int .u8 5, .int .u8 7, .int .u8 1, .int .u8 9] 5)).alloc (by have := hB1.size; simp; omega) (.cells #[.bool true, .bool true, .bool true, .bool true] 4)
  clear hr1 hB1
  obtain ⟨gA, hgA⟩ : ∃ g, g = w1.heap.size + 1 := ⟨_, rfl⟩
  rw [← hgA] at hbC ⊢
  clear hgA
  generalize ((w1.alloc (.cells #[.int .u8 5, .int .u8 7, .int .u8 1, .int .u8 9] 5)).alloc (.cells #[.bool true, .bool true, .bool true, .bool true] 4)) = w2 at *
  refine (ex5_dec hrC hbC).mono ?_
  rintro e w3 ⟨g2, c2, rfl, hw3, hb3⟩
  have hr3 := hr2.below hb3
  have hB3 := hB2.trans (hb3.mono hB2.size)
  clear hrC hbC hr2 hB2 hb3
  go_wp2_with fail
  have hrD : Row ((w3.alloc (.cells #[.int .u8 0, .int .u8 1] 5)).alloc (.cells #[.int .u8 5, .int .u8 7] 5)) (some ⟨w3.heap.size, 0, none⟩) 2 [ofN 0, ofN 1] := (row_lit w3 [ofN 0, ofN 1] 2 _ rfl rfl (by unfold maxLen; simp) _ rfl _).alloc _
  have hrE : Row ((w3.alloc (.cells #[.int .u8 0, .int .u8 1] 5)).alloc (.cells #[.int .u8 5, .int .u8 7] 5)) (some ⟨w3.heap.size + 1, 0, none⟩) 2 [ofN 5, ofN 7] := row_lit _ [ofN 5, ofN 7] 2 _ rfl (by simp) (by unfold maxLen; simp) _ rfl _
  have hr4 := (hr3.alloc (.cells #[.int .u8 0, .int .u8 1] 5)).alloc (.cells #[.int .u8 5, .int .u8 7] 5)
  have hw4 := (hw3.alloc (.cells #[.int .u8 0, .int .u8 1] 5)).alloc (.cells #[.int .u8 5, .int .u8 7] 5)
  have hB4 := (hB3.alloc hB3.size (.cells #[.int .u8 0, .int .u8 1] 5)).alloc (by have := hB3.size; simp; omega) (.cells #[.int .u8 5, .int .u8 7] 5)
  clear hr3 hw3 hB3
  obtain ⟨gB, hgB⟩ : ∃ g, g = w3.heap.size + 1 := ⟨_, rfl⟩
  rw [← hgB] at hrE ⊢
  clear hgB
  generalize ((w3.alloc (.cells #[.int .u8 0, .int .u8 1] 5)).alloc (.cells #[.int .u8 5, .int .u8 7] 5)) = w4 at *
  refine (exT_thr hrD hrE).mono ?_
  rintro e w5 ⟨A5, t5, c5, rfl, hw5, hb5⟩
  have hr5 := hr4.below hb5
  have hw45 := hw4.below hb5
  have hB5 := hB4.trans (hb5.mono hB4.size)
  clear hr4 hw4 hB4 hb5 hrD hrE
  have hc1 := run_row_string 2 hr5
  have hc2 := run_row_string c2 hw45
  have hc3 := run_row_string c5 hw5
  go_wp2
  go_ret
  exact ⟨rfl, hB5⟩
/-! ### The walk -/
theorem and255 (x : Int) : ∃ z : Nat, z ≤ 255 ∧ bits .and .i64 x 255 = (z : Int) := by
  have h : (BitVec.ofInt 64 x &&& BitVec.ofInt 64 255).toNat ≤ 255 := by
    rw [BitVec.toNat_and]
    exact Nat.le_trans Nat.and_le_right (by decide)
  refine ⟨_, h, ?_⟩
  show IntKind.i64.wrap ((BitVec.ofInt 64 x &&& BitVec.ofInt 64 255).toNat : Int) = _
  exact IntWalk.i64_in _ (by omega)
theorem words_less (A B : Option Addr) (n ca N cb : Nat) (k at_ : Int) (x : F) (w : World) (hn : n ≤ 9223372036854775807) (h : n < 1 ∨ 10 < n ∨ k < 0 ∨ 8 < k ∨ (N : Int) ≠ n + k) :
    Calls Try.prog 3 #[.slice A n ca, .int .i64 k, .slice B N cb, .int .i64 at_, .int .u8 x.n] w fun e w' => e = .returned (.bool true) ∧ Below w.heap.size w w' := by
  have hd : ((n : Int) < 1) ∨ (¬ (n : Int) < 1 ∧ (10 : Int) < n) ∨ (¬ (n : Int) < 1 ∧ ¬ (10 : Int) < n ∧ k < 0) ∨ (¬ (n : Int) < 1 ∧ ¬ (10 : Int) < n ∧ ¬ k < 0 ∧ 8 < k) ∨
      (¬ (n : Int) < 1 ∧ ¬ (10 : Int) < n ∧ ¬ k < 0 ∧ ¬ 8 < k ∧ ((N : Int) != (n : Int) + k) = true) := by
    by_cases h0 : n < 1
    · exact .inl (by omega)
    · right
      by_cases h1 : 10 < n
      · exact .inl ⟨by omega, by omega⟩
      · right
        by_cases h3 : k < 0
        · exact .inl ⟨by omega, by omega, h3⟩
        · right
          by_cases h4 : 8 < k
          · exact .inl ⟨by omega, by omega, h3, h4⟩
          · exact .inr ⟨by omega, by omega, h3, h4, by rw [bne_iff_ne]; omega⟩
  clear h
  rcases hd with e0 | ⟨e0, e1⟩ | ⟨e0, e1, e3⟩ | ⟨e0, e1, e3, e4⟩ | ⟨e0, e1, e3, e4, e5⟩
  all_goals
    go_enter Try.func3, Try.ntmps3
    go_wp2_with (go_at_call 4; refine (sound_c _).mono ?_; rintro e w1 ⟨rfl, hb1⟩)
    go_ret
    exact ⟨rfl, hb1⟩
set_option maxHeartbeats 8000000 in
theorem words_main (A B : Option Addr) (n ca N cb k : Nat) (a : List F) (th : List Bool) (at_ : Int) (x : F) (w : World) (ha : RowIn w A n ca a) (hb : BRow w B N th) (h1 : 1 ≤ n) (h2 : n ≤ 10) (h3 : k ≤ 8) (hN : n + k = N) :
    Calls Try.prog 3 #[.slice A n ca, .int .i64 k, .slice B N cb, .int .i64 at_, .int .u8 x.n] w fun e w' => e = .returned (.bool true) ∧ Below w.heap.size w w' := by
  obtain ⟨i0, hi, hz0, hz1, hz2⟩ := info_parts info_u8
  have e0 : ¬ (n : Int) < 1 := by omega
  have e1 : ¬ (10 : Int) < n := by omega
  have e2 : ¬ (8 : Int) < k := by omega
  have e3 : ¬ (k : Int) < 0 := by omega
  have hNi : (n : Int) + (k : Int) = (N : Int) := by omega
  have hN18 : N ≤ 18 := by omega
  have hN0 : 0 < N := by omega
  have hNz : ((N : Int) == 0) = false := by rw [beq_eq_false_iff_ne]; omega
  obtain ⟨z, hz, hzz⟩ := and255 at_
  obtain ⟨p, hp⟩ : ∃ p, p = z % N := ⟨_, rfl⟩
  have hpm : (z : Int) % (N : Int) = (p : Int) := by rw [hp]; rfl
  have hpt : (z : Int).tmod (N : Int) = (p : Int) := by rw [Int.tmod_eq_emod_of_nonneg (by omega)]; exact hpm
  have hpN : p < N := by rw [hp]; exact Nat.mod_lt _ hN0
  have HLA := Lib.hid ha.row.len
  have HN := Lib.hid hN
  clear hN hp
  go_enter Try.func3, Try.ntmps3
  go_wp2_with (go_at_call 4; refine (sound_c _).mono ?_; rintro e w1 ⟨rfl, hb1⟩)
  refine (Encode_ok A n ca k a w1 (ha.below hb1) h1 (by omega)).mono ?_
  rintro e w2 ⟨g1, T, rfl, ho2, ht, hb2⟩
  have hB2 := hb1.trans (hb2.mono hb1.size)
  have HT := Lib.hid ht
  have hP2 := Row.of_own ho2
  have hA2 := (ha.below hb1).below hb2
  have hBr2 := (hb.below hb1).below hb2
  have HW : Hid (cs a ++ cs (vals T n k) = cs (vals T 0 N)) := by
    unfold Hid
    rw [← cs_append, ← HN.out, ← vals_append, Nat.zero_add, HT.out.vals_eq HLA.out]
  clear hb1 hb2 ho2 ht ha hb
  go_wp2_with fail
  refine (Copy_c A n ca a w2 hA2.row (by omega)).mono ?_
  rintro e w3 ⟨A3, c3, rfl, ho3, hb3⟩
  have hP3 := hP2.below hb3
  have hs3 := hb3.size
  clear hP2 hA2
  go_wp2_with (at_builtin; refine wpList_append_own _ rfl (.tmp 59) (.tmp 60) 22 rfl w2.heap.size 5 i0 (.int .u8 0) 1 1 Try.underlying22 hi hz0 hz1 hz2 rfl (by decide) (.slice A3 n c3) n (cs a) rfl ho3 ⟨g1, 0, none⟩ k k (cs (vals T n k)) rfl (by rw [cs_length, vals_length, Nat.mul_one]) hP3.cells (cs_one _) (by unfold maxLen; omega) (by omega) hs3 ?_; intro v4 w4 hown4 hgrow4 hnil4; clear hnil4; rw [HW.out, HN.out] at hown4; have hb4 := hb3.grown hgrow4 hb3.size (fun z e => (ho3.lt z e).1); have hB4 := hB2.trans (hb4.mono hB2.size); have hBr4 := hBr2.below hb4; obtain ⟨A4, c4, rfl, -⟩ := own_shape hown4; obtain ⟨g4, rfl⟩ := own_some hown4 hN0; clear hgrow4 ho3 hb3 hb4 hBr2 hB2 hP3 hs3)
  go_loopw [15, 64] (fun vl i wr => ∃ (j c : Nat), j ≤ N ∧ i = .int .i64 j ∧ vl = .int .i64 c ∧ Hid (c = cntT th j) ∧ c ≤ j ∧ w4 = wr) (fun _ i _ => N - (intOf i).toNat)
  case atStart => exact ⟨0, 0, by omega, rfl, rfl, rfl, by omega, rfl⟩
  case round =>
    obtain ⟨j, c, hj, rfl, rfl, hc, hcj, rfl⟩ := hrel
    by_cases hlt : j < N
    · have hjn : (j : Int) < N := by omega
      obtain ⟨b2, o2, rfl, l2, p2⟩ := hBr4.at_ hlt
      cases hgj : gb th j with
      | false =>
        rw [hgj] at p2
        have hc2 : Hid (c = cntT th (j + 1)) := by
          unfold Hid cntT
          rw [if_neg (by rw [hgj]; simp)]
          exact hc.out
        clear hgj
        go_wp2
        go_roundw
        case rel => exact ⟨j + 1, c, by omega, by go_num, rfl, hc2, by omega, by first | exact trivial | rfl⟩
        case measure => simp [intOf]; omega
      | true =>
        rw [hgj] at p2
        have hc2 : Hid (c + 1 = cntT th (j + 1)) := by
          unfold Hid cntT
          rw [if_pos hgj, hc.out]
        clear hgj
        go_wp2
        go_roundw
        case rel => exact ⟨j + 1, c + 1, by omega, by go_num, by go_num, hc2, by omega, by first | exact trivial | rfl⟩
        case measure => simp [intOf]; omega
    · obtain rfl : j = N := by omega
      have HOK : Hid (DecOk j j (n : Int)) := ⟨rfl, by omega, by have := HN.out; omega, by omega⟩
      have hnj : n ≤ j := by have := HN.out; omega
      have hW4 := (own_in hown4).row
      have HD0 : Hid ((dfF (vals T 0 j) th (vals T 0 j) j).length = 0) := by unfold Hid; rw [dfF_none]; rfl
      have HFZ : Hid (Fit (thX th j j) (thY (vals T 0 j) th j j) (cntT th j) n ((cntT th j - n) / 2) T) := fit_zero HT.out.tt HT.out.len
      clear hown4 HW
      by_cases hcn : c < n
      · have hcni : (c : Int) < (n : Int) := by omega
        go_wp2_with fail
        refine (Fill_lost (some ⟨g4, 0, none⟩) B j c4 cb n _ th w4 hW4 hBr4 h1 hnj (by omega) (by rw [fthT_cnt, ← hc.out]; omega)).mono ?_
        rintro e w5 ⟨rfl, hb5⟩
        have hW5 := hW4.below hb5
        have hBr5 := hBr4.below hb5
        have hB5 := hB4.trans (hb5.mono hB4.size)
        clear hW4 hBr4 hB4 hb5
        go_wp2_with fail
        refine (Decode_c (some ⟨g4, 0, none⟩) B j c4 cb n (vals T 0 j) th w5 hW5 hBr5 HOK.out).mono ?_
        rintro e w6 ⟨⟨_, _, P, _, _, hc6, _⟩ | ⟨rfl, -⟩, hb6⟩
        · exact absurd hc6 (by rw [← hc.out]; omega)
        · have hB6 := hB5.trans (hb6.mono hB5.size)
          clear hb6 hW5 hBr5 hB5
          go_wp2
          go_ret
          exact ⟨rfl, hB6⟩
      · have hcni : ¬ (c : Int) < (n : Int) := by omega
        have HC : Hid (n ≤ cntT th j) := by unfold Hid; rw [← hc.out]; omega
        go_wp2_with fail
        refine (Fill_ok (some ⟨g4, 0, none⟩) B j c4 cb n (vals T 0 j) th w4 hW4 hBr4 h1 hnj (by omega) (by rw [fthT_cnt, ← hc.out]; omega)).mono ?_
        rintro e w5 ⟨g5, T5, rfl, hown5, hth5, hb5⟩
        have e5 : T5 = T := IsThrough.unique (thX_nodup th n j (by omega)) hth5 (thereT_tells HT.out.tt HT.out.len (by rw [fthT_cnt, ← hc.out]; omega) (fun i _ => rfl))
        rw [e5] at hown5
        have hF5 := (own_in hown5).row
        have hW5 := hW4.below hb5
        have hBr5 := hBr4.below hb5
        have hB5 := hB4.trans (hb5.mono hB4.size)
        clear hth5 e5 hown5 hW4 hBr4 hB4 hb5
        go_wp2_with fail
        refine (Decode_fit (some ⟨g4, 0, none⟩) B j c4 cb n (vals T 0 j) T th w5 hW5 hBr5 HOK.out HC.out HFZ.out).mono ?_
        rintro e w6 ⟨A6, c6, rfl, hown6, hb6⟩
        rw [HD0.out]
        have hD6 := (own_in hown6).row
        have hF6 := hF5.below hb6
        have hW6 := hW5.below hb6
        have hBr6 := hBr5.below hb6
        have hB6 := hB5.trans (hb6.mono hB5.size)
        clear hown6 hF5 hW5 hBr5 hB5 hb6
        go_wp2_with (go_at_call 9; first
          | (with_reducible refine (Same_c (some ⟨g5, 0, none⟩) (some ⟨g4, 0, none⟩) j j c4 (vals T 0 j) (vals T 0 j) _ hF6 hW6 rfl).mono ?_; rintro e _ ⟨rfl, q, rfl⟩)
          | (with_reducible refine (Same_c A6 (some ⟨g4, 0, none⟩) j c6 c4 (vals T 0 j) (vals T 0 j) _ (hD6.drewN q) (hW6.drewN q) rfl).mono ?_; rintro e _ ⟨rfl, q2, rfl⟩))
        have hB7 := below_drewN hB6 (q + q2)
        have hW7 := hW6.drewN (q + q2)
        have hBr7 := hBr6.drewN (q + q2)
        clear hB6 hW6 hBr6 hD6 hF6
        generalize w6.drewN (q + q2) = w7 at *
        refine (Copy_c (some ⟨g4, 0, none⟩) j c4 (vals T 0 j) w7 hW7 (by omega)).mono ?_
        rintro e w8 ⟨A8, c8, rfl, hown8, hb8⟩
        obtain ⟨g8, rfl⟩ := own_some hown8 hN0
        have hcp := hown8.cellAt p (by omega)
        rw [cs_at (by rw [vals_length]; exact hpN)] at hcp
        have hfz := hown8.frozenAt p
        have hx2 := bits_xor (gt (vals T 0 j) p) x
        have hst := Lib.hid (hown8.stored p (.int .u8 (gt (vals T 0 j) p + x).n)).1
        have hbs := Lib.hid (hb8.setCell (p := ⟨g8, p, none⟩) (hown8.lt g8 rfl).1 (.int .u8 (gt (vals T 0 j) p + x).n))
        have HLp : Hid (gt ((vals T 0 j).set p (gt (vals T 0 j) p + x)) p = gt (vals T 0 j) p + x) := by unfold Hid; rw [gt_set _ _ _ _ (by rw [vals_length]; exact hpN), if_pos rfl]
        have HLs : Hid (∀ i, i ≠ p → gt ((vals T 0 j).set p (gt (vals T 0 j) p + x)) i = gt (vals T 0 j) i) := fun i hi => by rw [gt_set _ _ _ _ (by rw [vals_length]; exact hpN), if_neg hi]
        obtain ⟨L, hL⟩ : ∃ L, L = (vals T 0 j).set p (gt (vals T 0 j) p + x) := ⟨_, rfl⟩
        have hst2 : Hid (World.ownsRow (w8.setCell ⟨g8, p, none⟩ (.int .u8 (gt (vals T 0 j) p + x).n)) w7.heap.size 5 1 (.slice (some ⟨g8, 0, none⟩) j c8) j (cs L)) := by
          have h9 := hst.out
          rw [cs_set, ← hL] at h9
          exact h9
        rw [← hL] at HLp HLs
        clear hL hst
        clear hown8
        go_wp2_with fail
        have hR9 := (own_in hst2.out).row
        have hBr9 := hBr7.below hbs.out
        have hB9 := hB7.trans (hbs.out.mono hB7.size)
        clear hst2 hbs hBr7 hB7 hW7 hb8
        generalize w8.setCell ⟨g8, p, none⟩ (.int .u8 (gt (vals T 0 j) p + x).n) = w9 at *
        clear hx2 hcp hfz
        obtain ⟨b2, o2, eB, l2, p2⟩ := hBr9.at_ hpN
        have HEB := Lib.hid eB
        by_cases hxz : x = 0 ∨ gb th p = false
        · have HS : ∀ i, gb th i = true → gt L i = gt (vals T 0 j) i := fun i hi => by
            by_cases hip : i = p
            · subst hip
              rcases hxz with h5 | h5
              · rw [HLp.out, h5, add_zero]
              · rw [h5] at hi; cases hi
            · exact HLs.out i hip
          have HFL : Hid (Fit (thX th j j) (thY L th j j) (cntT th j) n ((cntT th j - n) / 2) T) := by
            unfold Hid
            rw [thY_same j j HS]
            exact HFZ.out
          have HDL : dfF L th (vals T 0 j) j = [] := by rw [dfF_same j HS, dfF_none]
          refine (Wrong_fit (some ⟨g8, 0, none⟩) B j c8 cb n L T th w9 hR9 hBr9 HOK.out HC.out HFL.out).mono ?_
          rintro e w10 ⟨D, d, cd, rfl, hd, hown10, hb10⟩
          rw [HDL] at hd
          have hd0 : d = 0 := hd.out
          subst hd0
          have p10 := (hb10.cell (p := ⟨b2, o2 + p, none⟩) l2).trans p2
          have hB10 := hB9.trans (hb10.mono hB9.size)
          have eB2 := HEB.out
          subst eB2
          clear HS HDL hown10 hb10 hR9 hBr9 hB9 hd HEB p2
          by_cases hx0 : x = 0
          · have hxb : ((x.n : Int) == 0) = true := by rw [n_beq]; exact decide_eq_true hx0
            clear hx0 hxz
            go_wp2
            go_ret
            exact ⟨rfl, hB10⟩
          · have hxb : ((x.n : Int) == 0) = false := by rw [n_beq]; exact decide_eq_false hx0
            have hg : gb th p = false := hxz.resolve_left hx0
            rw [hg] at p10
            clear hx0 hxz hg
            go_wp2
            go_ret
            exact ⟨rfl, hB10⟩
        · have hx0 : ¬ x = 0 := fun e => hxz (.inl e)
          have hg : gb th p = true := by
            cases hgp : gb th p with
            | true => rfl
            | false => exact absurd (.inr hgp) hxz
          have hxb : ((x.n : Int) == 0) = false := by rw [n_beq]; exact decide_eq_false hx0
          rw [hg] at p2
          by_cases hc2 : c < n + 2
          · have hc2i : (c : Int) < (n : Int) + 2 := by omega
            refine (Wrong_any (some ⟨g8, 0, none⟩) B j c8 cb n L th w9 hR9 hBr9 HOK.out).mono ?_
            rintro e w10 ⟨D, d, cd, gg, rfl, hb10⟩
            have p10 := (hb10.cell (p := ⟨b2, o2 + p, none⟩) l2).trans p2
            have hB10 := hB9.trans (hb10.mono hB9.size)
            have eB2 := HEB.out
            subst eB2
            clear hb10 hR9 hBr9 hB9 HEB p2 hxz hx0 hg
            go_wp2
            go_ret
            exact ⟨rfl, hB10⟩
          · have hc2i : ¬ (c : Int) < (n : Int) + 2 := by omega
            have HD1 : dfF L th (vals T 0 j) j = [p] := by
              rw [dfF_one hg (by rw [HLp.out]; intro e; exact hx0 (add_left_inj (e.trans (add_zero _).symm))) (fun i hi => HLs.out i hi) j, if_pos hpN]
            have HFL : Hid (Fit (thX th j j) (thY L th j j) (cntT th j) n ((cntT th j - n) / 2) T) := fit_one5 HT.out.tt HT.out.len (by rw [HD1]; exact Nat.le_refl _) (by rw [← hc.out]; omega)
            refine (Wrong_fit (some ⟨g8, 0, none⟩) B j c8 cb n L T th w9 hR9 hBr9 HOK.out HC.out HFL.out).mono ?_
            rintro e w10 ⟨D, d, cd, rfl, hd, hown10, hb10⟩
            rw [HD1] at hd hown10
            have hd1 : d = 1 := hd.out
            subst hd1
            obtain ⟨g10, rfl⟩ := own_some hown10 (by omega)
            have hp10 : w10.cell? ⟨g10, 0, none⟩ = some (.int .i64 (p : Nat)) := hown10.cellAt 0 (by omega)
            have p10 := (hb10.cell (p := ⟨b2, o2 + p, none⟩) l2).trans p2
            have hB10 := hB9.trans (hb10.mono hB9.size)
            have eB2 := HEB.out
            subst eB2
            clear HD1 hown10 hb10 hR9 hBr9 hB9 hd HEB p2 hxz hx0 hg
            go_wp2
            go_ret
            exact ⟨rfl, hB10⟩
theorem walk_WholeWords (w : World) (A : Option Addr) (n ca : Nat) (a : List F) (ha : RowIn w A n ca a) (k : Int) (_ : (Lit.int .i64 k).wf = true) (B : Option Addr) (N cb : Nat) (th : List Bool) (hb : BRow w B N th) (at_ : Int) (_ : (Lit.int .i64 at_).wf = true) (x : F) :
    Calls Try.prog 3 #[.slice A n ca, .int .i64 k, .slice B N cb, .int .i64 at_, .int .u8 x.n] w fun e w' => e = .returned (.bool true) ∧ Below w.heap.size w w' := by
  by_cases h : n < 1 ∨ 10 < n ∨ k < 0 ∨ 8 < k ∨ (N : Int) ≠ n + k
  · exact words_less A B n ca N cb k at_ x w ha.row.max h
  · obtain ⟨j, rfl⟩ : ∃ j : Nat, k = j := ⟨k.toNat, by omega⟩
    exact words_main A B n ca N cb j a th at_ x w ha hb (by omega) (by omega) (by omega) (by omega)
end Go.Proofs.Ytcodgamhgfafnaa
