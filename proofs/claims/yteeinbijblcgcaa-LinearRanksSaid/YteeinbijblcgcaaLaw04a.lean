/-
  LAW 04's WALK: SystematicFar: it returns true, and writes nothing that was there. No conditions.
-/
import Derived.Test.YteeinbijblcgcaaLaw04
namespace Go.Proofs.Yteeinbijblcgcaa
open Go.RowKit
set_option linter.unusedVariables false

set_option maxHeartbeats 1000000 in
/-- of as many bytes -/
theorem Same_d (A B : Option Addr) (n ca cb : Nat) (a b : List F) (w : World) (ha : Row w A n a) (hb : Row w B n b) :
    Calls Try.prog 22 #[.slice A n ca, .slice B n cb] w fun e w' => e = .returned (.bool (decide (a = b))) ∧ ∃ q, w' = w.drewN q := by
  have hm := ha.max
  have HL := Lib.hid (And.intro ha.len hb.len)
  go_enter Try.func22, Try.ntmps22
  go_wp2
  go_loopw [5] (fun i wr => ∃ k q : Nat, k ≤ n ∧ i = .int .i64 k ∧ wr = w.drewN q ∧ Hid (∀ j, j < k → gt a j = gt b j)) (fun i _ => n - (intOf i).toNat)
  case atStart => exact ⟨0, 0, by omega, rfl, rfl, fun j hj => by omega⟩
  case round =>
    obtain ⟨k, q, hk, rfl, rfl, hs⟩ := hrel
    by_cases hlt : k < n
    · obtain ⟨b1, o1, rfl, _, h1⟩ := ha.at_ hlt
      obtain ⟨b2, o2, rfl, _, h2⟩ := hb.at_ hlt
      have hkn : (k : Int) < n := by omega
      by_cases he : gt a k = gt b k
      · have hne : (((gt a k).n : Int) != ((gt b k).n : Int)) = false := by rw [he]; simp
        have HE := Lib.hid he
        clear he
        go_wp2
        go_quiet (fail)
        go_wp2
        go_roundw
        case rel =>
          refine ⟨k + 1, _, by omega, by go_num, rfl, fun j hj => ?_⟩
          rcases Nat.lt_or_ge j k with h | h
          · exact hs.out j h
          · rw [show j = k by omega]; exact HE.out
        case measure => simp [intOf]; omega
      · have hne : (((gt a k).n : Int) != ((gt b k).n : Int)) = true := by
          rw [bne_iff_ne]
          exact fun e => he (F.ext (by omega))
        have HE : Hid (decide (a = b) = false) := by
          unfold Hid
          rw [decide_eq_false_iff_not]
          intro e
          exact he (by rw [e])
        clear he
        go_wp2
        go_quiet (fail)
        go_wp2
        go_ret
        exact ⟨ret_bool HE.out.symm, _, World.drewN_drewN _ _ _⟩
    · have HE : Hid (decide (a = b) = true) := by
        unfold Hid
        rw [decide_eq_true_iff]
        refine ext_gt (by rw [HL.out.1, HL.out.2]) fun i hi => hs.out i ?_
        rw [HL.out.1] at hi
        omega
      go_wp2
      go_ret
      exact ⟨ret_bool HE.out.symm, q, rfl⟩

/-- where two rows are alike, of the first k places -/
def agr (x y : List F) : Nat → List Nat
  | 0 => []
  | k + 1 => if gt x k = gt y k then agr x y k ++ [k] else agr x y k
theorem agr_le (x y : List F) (k : Nat) : (agr x y k).length ≤ k := by
  induction k with
  | zero => exact Nat.le_refl _
  | succ k ih =>
    unfold agr
    split
    · rw [List.length_append]; simp; omega
    · omega
theorem agr_lt (x y : List F) (k : Nat) : ∀ i ∈ agr x y k, i < k ∧ gt x i = gt y i := by
  induction k with
  | zero => intro i hi; cases hi
  | succ k ih =>
    intro i hi
    unfold agr at hi
    split at hi
    · rename_i h
      rw [List.mem_append, List.mem_singleton] at hi
      rcases hi with hi | hi
      · have := ih i hi; exact ⟨by omega, this.2⟩
      · subst hi; exact ⟨by omega, h⟩
    · have := ih i hi; exact ⟨by omega, this.2⟩
theorem agr_nodup (x y : List F) (k : Nat) : (agr x y k).Nodup := by
  induction k with
  | zero => exact List.nodup_nil
  | succ k ih =>
    unfold agr
    split
    · rw [List.nodup_append]
      refine ⟨ih, by simp, fun a ha b hb => ?_⟩
      rw [List.mem_singleton] at hb
      have := (agr_lt x y k a ha).1
      omega
    · exact ih
theorem pl_nodup {l : List Nat} (h : l.Nodup) (hl : ∀ i ∈ l, i < 256) : (l.map plI).Nodup := by
  refine List.Pairwise.map plI ?_ (List.Pairwise.imp_of_mem (R := (· ≠ ·)) (S := fun a b => a ≠ b ∧ a < 256 ∧ b < 256) ?_ h)
  · rintro a b ⟨h1, h2, h3⟩ e
    have := congrArg F.n e
    rw [plI_lt h2, plI_lt h3] at this
    exact h1 this
  · intro a b ha hb hne
    exact ⟨hne, hl a ha, hl b hb⟩
/-- TWO UNLIKE CODEWORDS DIFFER AT MORE THAN k PLACES -/
theorem far {n k : Nat} {a b Ta Tb : List F} (hn : n + k ≤ 255) (ha : Tells n a Ta) (hb : Tells n b Tb) (hla : a.length = n) (hlb : b.length = n) (hne : a ≠ b) {f : Nat} (hf : f + (agr (vals Ta 0 (n + k)) (vals Tb 0 (n + k)) (n + k)).length = n + k) : k < f := by
  rcases Nat.lt_or_ge k f with h | h
  · exact h
  · exfalso
    obtain ⟨ag, hag⟩ : ∃ ag, ag = agr (vals Ta 0 (n + k)) (vals Tb 0 (n + k)) (n + k) := ⟨_, rfl⟩
    rw [← hag] at hf
    have hl : n ≤ ag.length := by omega
    have hlt : ∀ i ∈ ag, i < n + k ∧ gt (vals Ta 0 (n + k)) i = gt (vals Tb 0 (n + k)) i := by rw [hag]; exact agr_lt _ _ _
    have hT : Ta = Tb := by
      refine same_at ha.tt hb.tt ha.len hb.len (xs := (ag.take n).map plI) (by rw [List.length_map, List.length_take]; omega) (pl_nodup ((agr_nodup _ _ _ : (agr (vals Ta 0 (n + k)) (vals Tb 0 (n + k)) (n + k)).Nodup).sublist (by rw [← hag]; exact List.take_sublist _ _)) fun i hi => ?_) fun x hx => ?_
      · have := (hlt i (List.mem_of_mem_take hi)).1; omega
      · obtain ⟨i, hi, rfl⟩ := List.mem_map.1 hx
        obtain ⟨h1, h2⟩ := hlt i (List.mem_of_mem_take hi)
        rw [gt_vals, gt_vals, if_pos h1, if_pos h1, Nat.zero_add] at h2
        exact h2
    exact hne (by rw [← ha.vals_eq hla, ← hb.vals_eq hlb, hT])
theorem sum_vals (Ta Tb : List F) (N : Nat) : mkF (fun i => gt (vals Ta 0 N) i + gt (vals Tb 0 N) i) N = vals (tr (padd Ta Tb)) 0 N := by
  refine ext_gt (by rw [mkF_length, vals_length]) fun i hi => ?_
  rw [mkF_length] at hi
  rw [gt_mkF, gt_vals, gt_vals, gt_vals, if_pos hi, if_pos hi, if_pos hi, if_pos hi, ev_tr, ev_padd]
/-- a sum of codewords is one -/
theorem sum_is {n k : Nat} {Ta Tb T : List F} (hn : n ≤ 256) (ha : Ta.length ≤ n) (hb : Tb.length ≤ n) (ht : Tells n ((vals (tr (padd Ta Tb)) 0 (n + k)).take n) T) : vals T n (n + k - n) = (vals (tr (padd Ta Tb)) 0 (n + k)).drop n := by
  rw [vals_take _ _ _ _ (by omega)] at ht
  have hl := tr_le (padd Ta Tb)
  rw [padd_length] at hl
  have e := ht.unique hn (tells_vals (tr_tr _) (by omega))
  rw [vals_drop _ _ _ _ (by omega), e, Nat.zero_add]
/-- data, and what follows -/
theorem word_cells {n k : Nat} {l T : List F} (ht : Tells n l T) (hl : l.length = n) : cs l ++ cs (vals T n k) = cs (vals T 0 (n + k)) := by
  rw [← cs_append, ← vals_append, ht.vals_eq hl, Nat.zero_add]
set_option maxHeartbeats 1000000 in
theorem far_less (A B : Option Addr) (n m ca cb : Nat) (k : Int) (w : World) (h : n = 0 ∨ 12 < n ∨ m ≠ n ∨ k < 0 ∨ 12 < k) (hn : n ≤ 9223372036854775807) (hm : m ≤ 9223372036854775807) :
    Calls Try.prog 11 #[.slice A n ca, .slice B m cb, .int .i64 k] w fun e w' => e = .returned (.bool true) ∧ Below w.heap.size w w' := by
  have hd : (n = 0) ∨ (((n : Int) == 0) = false ∧ ((12 : Int) < n)) ∨ (((n : Int) == 0) = false ∧ ¬ ((12 : Int) < n) ∧ ((m : Int) != (n : Int)) = true) ∨ (((n : Int) == 0) = false ∧ ¬ ((12 : Int) < n) ∧ m = n ∧ k < 0) ∨ (((n : Int) == 0) = false ∧ ¬ ((12 : Int) < n) ∧ m = n ∧ ¬ k < 0 ∧ 12 < k) := by
    by_cases h0 : n = 0
    · exact .inl h0
    · right
      have e0 : ((n : Int) == 0) = false := by rw [beq_eq_false_iff_ne]; omega
      by_cases h1 : 12 < n
      · exact .inl ⟨e0, by omega⟩
      · right
        by_cases h2 : m = n
        · right
          by_cases h3 : k < 0
          · exact .inl ⟨e0, by omega, h2, h3⟩
          · exact .inr ⟨e0, by omega, h2, h3, by omega⟩
        · exact .inl ⟨e0, by omega, by rw [bne_iff_ne]; omega⟩
  clear h
  rcases hd with rfl | ⟨e0, e1⟩ | ⟨e0, e1, e2⟩ | ⟨e0, e1, rfl, e3⟩ | ⟨e0, e1, rfl, e3, e4⟩
  all_goals
    go_enter Try.func11, Try.ntmps11
    go_wp2_with (go_at_call 28; refine (alive04_c _).mono ?_; rintro e w1 ⟨rfl, hb1⟩)
    go_ret
    exact ⟨rfl, hb1⟩
theorem len_bytes (n : Nat) (p : Option Addr) (c : Nat) (w : World) : Sem.run Try.prog (Builtin.len_ #[23] 3 #[Value.slice p n c]) w = .ok (.int .i64 n) w := by
  simp [go_sem]
theorem own_row_in {w : World} {base n : Nat} {e : TypeId} {v : Value} {l m : List F} (h : w.ownsRow base e 1 v n (cs l)) (hlm : l = m) : ∃ A c, v = .slice A n c ∧ RowIn w A n c m := by
  obtain ⟨A, c, rfl, _⟩ := own_shape h
  subst hlm
  exact ⟨A, c, rfl, own_in h⟩
set_option maxHeartbeats 4000000 in
theorem far_main (A B : Option Addr) (n ca cb k : Nat) (a b : List F) (w : World) (ha : RowIn w A n ca a) (hb : RowIn w B n cb b) (h1 : 1 ≤ n) (h2 : n ≤ 12) (h3 : k ≤ 12) :
    Calls Try.prog 11 #[.slice A n ca, .slice B n cb, .int .i64 k] w fun e w' => e = .returned (.bool true) ∧ Below w.heap.size w w' := by
  obtain ⟨i0, hi, hz0, hz1, hz2⟩ := info_parts info_u8
  have e0 : ((n : Int) == 0) = false := by rw [beq_eq_false_iff_ne]; omega
  have e1 : decide ((12 : Int) < n) = false := by simp; omega
  have e2 : decide ((12 : Int) < k) = false := by simp; omega
  have e3 : decide ((k : Int) < 0) = false := by simp
  have HLA := Lib.hid ha.row.len
  have HLB := Lib.hid hb.row.len
  obtain ⟨N, hN⟩ : ∃ N, N = n + k := ⟨_, rfl⟩
  have hNi : (n : Int) + (k : Int) = (N : Int) := by omega
  have hN24 : N ≤ 24 := by omega
  have HN := Lib.hid hN
  clear hN
  go_enter Try.func11, Try.ntmps11
  go_wp2_with (go_at_call 28; refine (alive04_c _).mono ?_; rintro e w1 ⟨rfl, hb1⟩)
  refine (Encode_ok A n ca k a w1 (ha.below hb1) h1 (by omega)).mono ?_
  rintro e w2 ⟨g1, Ta, rfl, ho1, hta, hb2⟩
  have hB2 := hb1.trans (hb2.mono hb1.size)
  have HTA := Lib.hid hta
  have hP := Row.of_own ho1
  clear hb1 hb2 hta ho1
  go_wp2_with fail
  refine (Encode_ok B n cb k b w2 (hb.below hB2) h1 (by omega)).mono ?_
  rintro e w3 ⟨g2, Tb, rfl, ho2, htb, hb3⟩
  have hB3 := hB2.trans (hb3.mono hB2.size)
  have HTB := Lib.hid htb
  have hP3 := hP.below hb3
  have hQ3 := Row.of_own ho2
  have hA3 := ha.below hB3
  have hBB3 := hb.below hB3
  clear hb3 htb hP ho2 hB2 ha hb
  go_wp2_with fail
  refine (Copy_c A n ca a w3 hA3.row (by omega)).mono ?_
  rintro e w4 ⟨X, cx, rfl, hX, hb4⟩
  have hl1 : Hid ((cs (vals Ta n k)).length = k * 1) := by unfold Hid; rw [cs_length, vals_length, Nat.mul_one]
  have hl2 : Hid ((cs (vals Tb n k)).length = k * 1) := by unfold Hid; rw [cs_length, vals_length, Nat.mul_one]
  have hc4 := Lib.hid (hP3.below hb4).cells
  go_wp2_with (at_builtin; refine wpList_append_own _ rfl (.tmp 54) (.tmp 55) 23 rfl w3.heap.size 5 i0 (.int .u8 0) 1 1 Try.underlying23 hi hz0 hz1 hz2 rfl (by decide) (.slice X n cx) n (cs a) rfl hX _ k k (cs (vals Ta n k)) rfl hl1.out hc4.out (cs_one _) (by unfold maxLen; omega) (by omega) hb4.size ?_; intro v5 w5 hown5 hgrow5 hnil5)
  have hb5 := hb4.grown hgrow5 hb4.size (fun g e => (hX.lt g e).1)
  have e5 := word_cells (k := k) HTA.out HLA.out
  rw [e5, ← HN.out] at hown5
  obtain ⟨X5, c5, rfl, -⟩ := own_shape hown5
  clear e5 hnil5 hgrow5 hX hb4 hc4
  refine (Copy_c B n cb b w5 (hBB3.row.below hb5) (by omega)).mono ?_
  rintro e w6 ⟨Y, cy, rfl, hY, hb6⟩
  have hX6 := own_below hown5 hb6
  have hB6 := hb5.trans (hb6.mono hb5.size)
  have hXY : (Value.slice X5 N c5).ownBlock = none ∨ (Value.slice X5 N c5).ownBlock ≠ (Value.slice Y n cy).ownBlock := by
    cases hx : (Value.slice X5 N c5).ownBlock with
    | none => exact .inl rfl
    | some z => exact .inr fun e => by have := (hown5.lt z hx).2; have := (hY.lt z e.symm).1; omega
  have hY6 := hY.mono hb5.size
  have hc6 := Lib.hid (hQ3.below hB6).cells
  clear hown5 hY hb5 hb6
  go_wp2_with (at_builtin; refine wpList_append_own _ rfl (.tmp 58) (.tmp 59) 23 rfl w3.heap.size 5 i0 (.int .u8 0) 1 1 Try.underlying23 hi hz0 hz1 hz2 rfl (by decide) (.slice Y n cy) n (cs b) rfl hY6 _ k k (cs (vals Tb n k)) rfl hl2.out hc6.out (cs_one _) (by unfold maxLen; omega) (by omega) hB6.size ?_; intro v7 w7 hown7 hgrow7 hnil7)
  have hB7 := hB6.grown hgrow7 hB6.size (fun g e => (hY6.lt g e).1)
  have hX7 := hX6.kept hgrow7 hXY
  have e7 := word_cells (k := k) HTB.out HLB.out
  rw [e7, ← HN.out] at hown7
  obtain ⟨Y7, c7, rfl, -⟩ := own_shape hown7
  have hx7 := own_in hX7
  have hy7 := own_in hown7
  clear e7 hnil7 hgrow7 hX6 hB6 hc6 hY6 hXY hX7 hown7 hP3 hQ3 hl1 hl2
  have hA7 := hA3.below hB7
  have hB7' := hBB3.below hB7
  have hBel := hB3.trans (hB7.mono hB3.size)
  clear hA3 hBB3 hB3 hB7
  have hq := len_bytes N
  go_wp2
  go_simp
  go_wp2
  obtain ⟨x, hx⟩ : ∃ x, x = vals Ta 0 N := ⟨_, rfl⟩
  obtain ⟨y, hy⟩ : ∃ y, y = vals Tb 0 N := ⟨_, rfl⟩
  rw [← hx] at hx7
  rw [← hy] at hy7
  have HX := Lib.hid hx
  have HY := Lib.hid hy
  clear hx hy
  go_loopw [14, 15, 78] (fun vf vs i wr => ∃ (j f : Nat) (S : Option Addr) (cS : Nat), j ≤ N ∧ i = .int .i64 j ∧ vf = .int .i64 f ∧ vs = .slice S j cS ∧ wr.ownsRow w7.heap.size 5 1 (.slice S j cS) j (cs (mkF (fun i => gt x i + gt y i) j)) ∧ Below w7.heap.size w7 wr ∧ Hid (f + (agr x y j).length = j)) (fun _ _ i _ => N - (intOf i).toNat)
  case atStart => exact ⟨0, 0, _, 0, by omega, rfl, rfl, rfl, World.ownsRow_made w7 #[] 0 (Nat.le_refl _) (Nat.zero_le _) rfl, (Below.refl _ _).alloc (Nat.le_refl _) _, rfl⟩
  case round =>
    obtain ⟨j, f, S, cS, hj, rfl, rfl, rfl, hown, hbel, hf⟩ := hrel
    by_cases hlt : j < N
    · obtain ⟨b1, o1, ex, l1, q1⟩ := hx7.row.at_ hlt
      obtain ⟨b2, o2, ey, l2, q2⟩ := hy7.row.at_ hlt
      subst ex ey
      replace q1 := (hbel.cell (p := ⟨b1, o1 + j, none⟩) l1).trans q1
      replace q2 := (hbel.cell (p := ⟨b2, o2 + j, none⟩) l2).trans q2
      have hjn : (j : Int) < N := by omega
      have hfj : f ≤ j := by have := hf.out; omega
      have hx2 := bits_xor (gt x j) (gt y j)
      have hne : Hid ((((gt x j).n : Int) != ((gt y j).n : Int)) = !decide (gt x j = gt y j)) := by
        unfold Hid
        by_cases h : gt x j = gt y j
        · rw [h]; simp
        · rw [decide_eq_false h, Bool.not_false, bne_iff_ne]; exact fun e => h (F.ext (by omega))
      have hag : Hid (agr x y (j + 1) = if gt x j = gt y j then agr x y j ++ [j] else agr x y j) := rfl
      have ag1 : some b1 ≠ (Value.slice S j cS).ownBlock := fun e => by have := (hown.lt b1 e.symm).1; omega
      have ag2 : some b2 ≠ (Value.slice S j cS).ownBlock := fun e => by have := (hown.lt b2 e.symm).1; omega
      have lW := hbel.size
      by_cases hE : gt x j = gt y j
      · have hne2 : (((gt x j).n : Int) != ((gt y j).n : Int)) = false := by rw [hne.out, decide_eq_true hE]; rfl
        have hf2 : Hid (f + (agr x y (j + 1)).length = j + 1) := by
          unfold Hid
          rw [hag.out, if_pos hE, List.length_append]
          have := hf.out
          simp
          omega
        clear hE hag hne
        go_wp2
        go_quiet (fail)
        go_wp2
        have hown' : (wr.drewN nq).ownsRow w7.heap.size 5 1 (.slice S j cS) j (cs (mkF (fun i => gt x i + gt y i) j)) := hown
        have hbel' := below_drewN hbel nq
        have q1' : (wr.drewN nq).cell? ⟨b1, o1 + j, none⟩ = some (.int .u8 (gt x j).n) := q1
        have q2' : (wr.drewN nq).cell? ⟨b2, o2 + j, none⟩ = some (.int .u8 (gt y j).n) := q2
        have lW' : w7.heap.size ≤ (wr.drewN nq).heap.size := hbel'.size
        clear hown hbel q1 q2 lW
        generalize wr.drewN nq = W at *
        go_region_held3 (fun w' => w'.cell? ⟨b1, o1 + j, none⟩ = some (.int .u8 (gt x j).n) ∧ w'.cell? ⟨b2, o2 + j, none⟩ = some (.int .u8 (gt y j).n))
          (first
            | go_keep
            | (go_split_ands
               refine ⟨?_, ?_⟩
               · (rw [hgrow.cell_far _ (by simp; omega) ag1]; assumption)
               · (rw [hgrow.cell_far _ (by simp; omega) ag2]; assumption)))
          ((refine step_append_lies _ (by rfl) _ _ _ (by rfl) w7.heap.size 5 i0 _ 1 1 Try.underlying23 hi hz0 hz1 hz2 rfl (by omega) (.slice S j cS) j (cs (mkF (fun i => gt x i + gt y i) j)) (by rfl) ((hown'.alloc _).drew)
              ⟨W.heap.size, 0, none⟩ 1 1 [.int .u8 (gt x j + gt y j).n] (by rfl) (by rfl) (World.news_of_block (cs := #[.int .u8 (gt x j + gt y j).n]) (t := 5) (fr := (0, 0)) (heap_alloc_new W _)) (by simp [Value.oneCell'])
              (by omega) (by unfold maxLen; omega) (by omega) (by have := hbel'.size; simp; omega) (W.heap.size + 1) (by simp) ?_; intro gg cap w9 hown9 hgrow hat hlt9))
        go_wp2
        go_roundw
        case rel =>
          refine ⟨j + 1, f, _, cap, by omega, by go_num, rfl, rfl, ?_, ((hbel'.alloc hbel'.size _).drew).grown hgrow (by have := hbel'.size; simp; omega) (fun g hg => (hown'.lt g hg).1), hf2⟩
          show w9.ownsRow _ _ _ _ _ (cs (mkF (fun i => gt x i + gt y i) j ++ [gt x j + gt y j]))
          rw [cs_append]
          exact hown9
        case measure => simp [intOf]; omega
      · have hne2 : (((gt x j).n : Int) != ((gt y j).n : Int)) = true := by rw [hne.out, decide_eq_false hE]; rfl
        have hf2 : Hid (f + 1 + (agr x y (j + 1)).length = j + 1) := by
          unfold Hid
          rw [hag.out, if_neg hE]
          have := hf.out
          omega
        clear hE hag hne
        go_wp2
        go_quiet (fail)
        go_wp2
        have hown' : (wr.drewN nq).ownsRow w7.heap.size 5 1 (.slice S j cS) j (cs (mkF (fun i => gt x i + gt y i) j)) := hown
        have hbel' := below_drewN hbel nq
        have q1' : (wr.drewN nq).cell? ⟨b1, o1 + j, none⟩ = some (.int .u8 (gt x j).n) := q1
        have q2' : (wr.drewN nq).cell? ⟨b2, o2 + j, none⟩ = some (.int .u8 (gt y j).n) := q2
        have lW' : w7.heap.size ≤ (wr.drewN nq).heap.size := hbel'.size
        clear hown hbel q1 q2 lW
        generalize wr.drewN nq = W at *
        go_region_held3 (fun w' => w'.cell? ⟨b1, o1 + j, none⟩ = some (.int .u8 (gt x j).n) ∧ w'.cell? ⟨b2, o2 + j, none⟩ = some (.int .u8 (gt y j).n))
          (first
            | go_keep
            | (go_split_ands
               refine ⟨?_, ?_⟩
               · (rw [hgrow.cell_far _ (by simp; omega) ag1]; assumption)
               · (rw [hgrow.cell_far _ (by simp; omega) ag2]; assumption)))
          ((refine step_append_lies _ (by rfl) _ _ _ (by rfl) w7.heap.size 5 i0 _ 1 1 Try.underlying23 hi hz0 hz1 hz2 rfl (by omega) (.slice S j cS) j (cs (mkF (fun i => gt x i + gt y i) j)) (by rfl) ((hown'.alloc _).drew)
              ⟨W.heap.size, 0, none⟩ 1 1 [.int .u8 (gt x j + gt y j).n] (by rfl) (by rfl) (World.news_of_block (cs := #[.int .u8 (gt x j + gt y j).n]) (t := 5) (fr := (0, 0)) (heap_alloc_new W _)) (by simp [Value.oneCell'])
              (by omega) (by unfold maxLen; omega) (by omega) (by have := hbel'.size; simp; omega) (W.heap.size + 1) (by simp) ?_; intro gg cap w9 hown9 hgrow hat hlt9))
        go_wp2
        go_roundw
        case rel =>
          refine ⟨j + 1, f + 1, _, cap, by omega, by go_num, by go_num, rfl, ?_, ((hbel'.alloc hbel'.size _).drew).grown hgrow (by have := hbel'.size; simp; omega) (fun g hg => (hown'.lt g hg).1), hf2⟩
          show w9.ownsRow _ _ _ _ _ (cs (mkF (fun i => gt x i + gt y i) j ++ [gt x j + gt y j]))
          rw [cs_append]
          exact hown9
        case measure => simp [intOf]; omega
    · obtain rfl : j = N := by omega
      have hsum : Hid (mkF (fun i => gt x i + gt y i) j = vals (tr (padd Ta Tb)) 0 (n + k)) := by
        unfold Hid
        rw [HX.out, HY.out, sum_vals, HN.out]
      have hS := own_in hown
      rw [hsum.out] at hS
      have hA8 := hA7.row.below hbel
      have hB8 := hB7'.row.below hbel
      have hBel8 := hBel.trans (hbel.mono hBel.size)
      have hfar : Hid (a ≠ b → k < f) := fun hne => far (by omega) HTA.out HTB.out HLA.out HLB.out hne (f := f) (by
        have h := hf.out
        rw [HX.out, HY.out, HN.out] at h
        exact h)
      clear hown hbel hA7 hB7' hBel hx7 hy7 hf hsum
      have hj24 : j ≤ 24 := by omega
      go_wp2_with fail
      refine (Same_d A B n ca cb a b wr hA8 hB8).mono ?_
      rintro e _ ⟨rfl, q, rfl⟩
      have hS9 : RowIn (wr.drewN q) S j cS (vals (tr (padd Ta Tb)) 0 (n + k)) := hS.drewN q
      have hB9 := below_drewN hBel8 q
      clear hS hBel8 hA8 hB8
      generalize wr.drewN q = w9 at *
      have fin : Calls Try.prog 36 #[.slice S j cS, .int .i64 n] w9 fun e w' => e = .returned (.bool true) ∧ Below w9.heap.size w9 w' := by
        refine (Is_yes S j cS n _ w9 hS9 h1 (by have := HN.out; omega) (by omega)).mono ?_
        rintro e w' ⟨T, rfl, ht, hb⟩
        refine ⟨ret_bool (decide_eq_true ?_), hb⟩
        have h := sum_is (k := k) (by omega) HTA.out.len HTB.out.len ht
        rw [← HN.out] at h
        rw [HN.out] at h ⊢
        exact h
      by_cases hab : a = b
      · rw [decide_eq_true hab]
        clear hab
        go_wp2_with (go_at_call 36; refine fin.mono ?_; rintro e w' ⟨rfl, hbl⟩)
        go_ret
        exact ⟨rfl, hB9.trans (hbl.mono hB9.size)⟩
      · rw [decide_eq_false hab]
        have hkf : k < f := hfar.out hab
        clear hab
        go_wp2_with (go_at_call 36; refine fin.mono ?_; rintro e w' ⟨rfl, hbl⟩)
        go_ret
        exact ⟨rfl, hB9.trans (hbl.mono hB9.size)⟩
theorem walk_SystematicFar (w : World) (A : Option Addr) (n ca : Nat) (a : List F) (ha : RowIn w A n ca a) (B : Option Addr) (m cb : Nat) (b : List F) (hb : RowIn w B m cb b) (k : Int) (_ : (Lit.int .i64 k).wf = true) :
    Calls Try.prog 11 #[.slice A n ca, .slice B m cb, .int .i64 k] w fun e w' => e = .returned (.bool true) ∧ Below w.heap.size w w' := by
  by_cases h : n = 0 ∨ 12 < n ∨ m ≠ n ∨ k < 0 ∨ 12 < k
  · exact far_less A B n m ca cb k w h ha.row.max hb.row.max
  · obtain ⟨j, rfl⟩ : ∃ j : Nat, k = j := ⟨k.toNat, by omega⟩
    obtain rfl : m = n := by omega
    exact far_main A B m ca cb j a b w ha hb (by omega) (by omega) (by omega)
end Go.Proofs.Yteeinbijblcgcaa
