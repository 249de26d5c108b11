/-
  LAYER 5: the polynomial that is meant, where two words differ, Decode. No conditions.
-/
import Derived.Test.YtcodgamhgfafnaaWelo
import Derived.Lib.MinMax
namespace Go.Proofs.Ytcodgamhgfafnaa
open Go.RowKit
set_option maxRecDepth 100000
set_option linter.unusedVariables false

theorem nodup_gt {l : List F} (h : l.Nodup) : ∀ i j, i < l.length → j < l.length → gt l i = gt l j → i = j := by
  rw [List.nodup_iff_pairwise_ne, List.pairwise_iff_getElem] at h
  intro i j hi hj e
  rw [gt_lt hi, gt_lt hj] at e
  rcases Nat.lt_trichotomy i j with h1 | h1 | h1
  · exact absurd e (h i j hi hj h1)
  · exact h1
  · exact absurd e.symm (h j i hj hi h1)
theorem sit_of {xs ys G : List F} {t n : Nat} (hx : xs.length = t) (hd : xs.Nodup) (hn : n ≤ t) (hG : IsThrough (xs.take n) (ys.take n) G) : Sit xs ys G (ntF (xs.take n) n) t n := by
  have hl : (xs.take n).length = n := by rw [List.length_take]; omega
  have e : ntF (xs.take n) n = ntF xs n := ntF_congr n fun i hi => by rw [gt_take, if_pos hi]
  refine ⟨fun i j hi hj => nodup_gt hd i j (by omega) (by omega), hn, fun i hi => ?_, fun i hi => gt_ge (by have := hG.le; omega), fun x => by rw [e], fun i hi => ntF_ge _ n i hi⟩
  have h1 := hG.val i (by omega)
  rw [gt_take, gt_take, if_pos hi, if_pos hi] at h1
  exact h1
theorem lk_sys {xs ys G Z : List F} {t n few : Nat} {v : List F} (hv : v.length = few + few) : LkEq (t - n) few (fun i => gt xs (n + i)) (lackAt xs ys G n) (fun i => ev Z (gt xs (n + i))) v ↔ Sys xs ys G Z t n few v :=
  ⟨fun h i hi => (row_eq _ _ _ few v hv).1 (h i hi), fun h i hi => (row_eq _ _ _ few v hv).2 (h i hi)⟩
theorem lk_yes {xs ys G Z ul : List F} {t n few : Nat} (S : Sit xs ys G Z t n) (h : LkSpec Z (t - n) few (fun i => gt xs (n + i)) (lackAt xs ys G n) (fun i => ev Z (gt xs (n + i))) ul true) : Fit xs ys t n few (tr (padd G ul)) := by
  rcases h with ⟨e, _⟩ | ⟨v, p, r, hv, he, hp, hd, hr⟩
  · cases e
  · obtain rfl : r = [] := of_decide_eq_true hr.symm
    exact sound S hv ((lk_sys hv).1 he) hp hd
theorem lk_short {xs ys G Z ul : List F} {t n few : Nat} (S : Sit xs ys G Z t n) (h : LkSpec Z (t - n) few (fun i => gt xs (n + i)) (lackAt xs ys G n) (fun i => ev Z (gt xs (n + i))) ul true) : ul.length ≤ n := by
  have hF := lk_yes S h
  rcases h with ⟨e, _⟩ | ⟨v, p, r, hv, he, hp, hd, hr⟩
  · cases e
  · rw [← hd.tu]
    refine tr_short fun i hi => ?_
    have h1 : gt (tr (padd G ul)) i = 0 := gt_ge (by have := hF.le; omega)
    rw [gt_tr, gt_padd, S.gl i hi, zero_add] at h1
    exact h1
theorem lk_no {xs ys G Z ul : List F} {t n few : Nat} (S : Sit xs ys G Z t n) (hf : 2 * few + n ≤ t) (h : LkSpec Z (t - n) few (fun i => gt xs (n + i)) (lackAt xs ys G n) (fun i => ev Z (gt xs (n + i))) ul false) : ∀ P, ¬ Fit xs ys t n few P := by
  intro P hP
  rcases h with ⟨_, hno⟩ | ⟨v, p, r, hv, he, hp, hd, hr⟩
  · obtain ⟨v, hv, hs⟩ := complete_sys S hP
    exact hno ⟨v, hv, (lk_sys hv).2 hs⟩
  · have h1 := (complete_all S hf hP hv ((lk_sys hv).1 he) hp hd).1
    exact of_decide_eq_false hr.symm h1
theorem drop_row {w : World} {b t cx n : Nat} {l : List F} (h : RowIn w (some ⟨b, 0, none⟩) t cx l) (hn : n ≤ t) : Row w (some ⟨b, n, none⟩) (t - n) (l.drop n) ∧ (cx = n → ∀ A, Row w A (t - n) (l.drop n)) ∧ Row w (if cx = n then some ⟨b, 0, none⟩ else some ⟨b, n, none⟩) (t - n) (l.drop n) := by
  have hl := h.row.len
  have hle := h.le
  have hm := h.max
  have h1 : Row w (some ⟨b, n, none⟩) (t - n) (l.drop n) := by
    refine ⟨by rw [List.length_drop, hl], by omega, fun hp => ?_⟩
    obtain ⟨b1, o1, e1, l1, q1⟩ := h.row.2.2 (by omega)
    injection e1 with e1
    injection e1 with e1 e2
    subst e1 e2
    refine ⟨_, _, rfl, l1, fun i hi => ?_⟩
    rw [gt_drop, ← q1 (n + i) (by omega), Nat.zero_add]
  have h2 : cx = n → ∀ A, Row w A (t - n) (l.drop n) := fun e A => by
    rw [show t - n = 0 by omega, List.drop_eq_nil_of_le (by omega)]
    exact Row.nil _ _
  refine ⟨h1, h2, ?_⟩
  split
  · exact h2 (by assumption) _
  · exact h1
theorem own_some {w : World} {base t c : Nat} {e : TypeId} {A : Option Addr} {xs : List Value} (h : w.ownsRow base e 1 (.slice A t c) t xs) (ht : 0 < t) : ∃ g, A = some ⟨g, 0, none⟩ := by
  rcases h.2 with ⟨_, h0⟩ | ⟨g, c', cur, hv, _⟩
  · omega
  · injection hv with hv
    exact ⟨g, hv⟩
/-- what meant tells -/
def MeantRes (w w' : World) (xs ys : List F) (t n most : Nat) (e : Ending) : Prop :=
  (∃ PA p cp P, e = .returned (.tuple #[.slice PA p cp, .bool true]) ∧ RowIn w' PA p cp P ∧ Fit xs ys t n most P) ∨ (e = .returned (.tuple #[.slice none 0 0, .bool false]) ∧ ∀ P, ¬ Fit xs ys t n most P)
set_option maxHeartbeats 4000000 in
theorem meant_c (A B : Option Addr) (len ca cb n most t : Nat) (l : List F) (th : List Bool) (w : World) (h : Row w A len l) (hb : BRow w B len th) (hlen : len ≤ 255) (hn1 : 1 ≤ n) (ht : Hid (t = (fth th len len).length)) (hmost : 2 * most + n ≤ t) :
    Calls Try.prog 17 #[.slice A len ca, .slice B len cb, .int .i64 n, .int .i64 most] w fun e w' => MeantRes w w' (thX th len len) (thY l th len len) t n most e ∧ Below w.heap.size w w' := by
  have htl : t ≤ len := by rw [ht.out]; exact fth_le_k _ _ _
  obtain ⟨xs, hxs⟩ : ∃ xs, xs = thX th len len := ⟨_, rfl⟩
  obtain ⟨ys, hys⟩ : ∃ ys, ys = thY l th len len := ⟨_, rfl⟩
  have hkn := known_c A B len ca cb len l th w h hb hlen (Nat.le_refl _)
  have hxl : xs.length = t := by rw [hxs, thX_length, ht.out]
  have hyl : ys.length = t := by rw [hys, thY_length, ht.out]
  have hnd : xs.Nodup := by rw [hxs]; exact thX_nodup th len len (by omega)
  rw [← hxs, ← hys] at hkn ⊢
  rw [← ht.out] at hkn
  have HKN := Lib.hid hkn
  have HND := Lib.hid hnd
  have HXL := Lib.hid hxl
  have HYL := Lib.hid hyl
  have hnt : (n : Int) ≤ (t : Int) := by omega
  clear hkn hnd hxl hyl hxs hys ht
  go_enter Try.func17, Try.ntmps17
  go_wp2_with fail
  refine HKN.out.mono ?_
  rintro e w1 ⟨XA, cx, YA, cy, t', rfl, ht', hX1, hY1, hb1⟩
  obtain rfl : t' = t := ht'.out
  obtain ⟨gx, rfl⟩ := own_some hX1 (by omega)
  obtain ⟨gy, rfl⟩ := own_some hY1 (by omega)
  have hX := own_in hX1
  have hY := own_in hY1
  have hx1 := hX.row.take (k := n) (by omega)
  have hy1 := hY.row.take (k := n) (by omega)
  have HNT : Hid ((xs.take n).Nodup) := HND.out.sublist (List.take_sublist _ _)
  have hcx := hX.le
  have hcy := hY.le
  have hnx : (n : Int) ≤ (cx : Int) := by omega
  have hny : (n : Int) ≤ (cy : Int) := by omega
  have hcxm := hX.max
  have hcym := hY.max
  unfold maxLen at hcxm hcym
  clear hX1 hY1 ht'
  go_wp2
  go_region_held3 (fun w' => True) (exact trivial) ((go_at_call 11; refine (Through_ok (some ⟨gx, 0, none⟩) (some ⟨gy, 0, none⟩) n cx cy (xs.take n) (ys.take n) _ (by exact hx1.drew) (by exact hy1.drew) HNT.out (by omega)).mono ?_; rintro e w2 ⟨GA, g, cg, G, rfl, hG, hthr, hb2⟩))
  have HS := Lib.hid (sit_of HXL.out HND.out (by omega) hthr)
  have hgl : g ≤ n := by have h1 := hG.row.len; have h2 := hthr.le; rw [List.length_take, HXL.out] at h2; omega
  have hb12 : Below w1.heap.size w1 w2 := ⟨hb2.os, hb2.tape, hb2.output, hb2.size, hb2.block⟩
  have hX2 := hX.below hb12
  have hY2 := hY.below hb12
  have hx2 := hX2.row.take (k := n) (by omega)
  have hB2 := hb1.trans (hb12.mono hb1.size)
  clear hx1 hy1 hthr hb2 hb12 hX hY hb1
  go_wp2_with fail
  refine (noughtAt_c (some ⟨gx, 0, none⟩) n cx (xs.take n) _ hx2 (by omega)).mono ?_
  rintro e w3 ⟨ZA, z, cz, rfl, hZ, hb3⟩
  have hzl : z ≤ n + 1 := by have h1 := hZ.row.len; have h2 := ntF_length (xs.take n) n; omega
  have hX3 := hX2.below hb3
  have hY3 := hY2.below hb3
  have hG3 := hG.below hb3
  have hB3 := hB2.trans (hb3.mono hB2.size)
  obtain ⟨x1, x2, x3⟩ := drop_row hX3 (n := n) (by omega)
  obtain ⟨y1, y2, y3⟩ := drop_row hY3 (n := n) (by omega)
  have X1 := Lib.hid x1
  have X2 := Lib.hid x2
  have X3 := Lib.hid x3
  have Y1 := Lib.hid y1
  have Y2 := Lib.hid y2
  have Y3 := Lib.hid y3
  clear hX2 hY2 hx2 hB2 hG hb3 x1 x2 x3 y1 y2 y3 hX3 hY3
  go_wp2
  by_cases hcn : cx = n <;> by_cases hcn2 : cy = n
  all_goals
    go_region_held3 (fun w' => True) (exact trivial) ((go_at_call 28; refine (checks_c GA ZA _ _ g cg z cz (t' - n) _ _ G (ntF (xs.take n) n) (xs.drop n) (ys.drop n) _ (by exact hG3.row.drew) (by exact hZ.row.drew) (by first | exact X1.out.drew | exact X3.out.drew | exact X2.out (by assumption) _) (by first | exact Y1.out.drew | exact Y3.out.drew | exact Y2.out (by assumption) _) (by omega)).mono ?_; rintro e w4 ⟨kb, rfl, hC, hb4⟩))
    have hC4 : ChkIn w4 (some ⟨kb, 0, none⟩) (t' - n) (fun i => gt xs (n + i)) (lackAt xs ys G n) (fun i => ev (ntF (xs.take n) n) (gt xs (n + i))) := by
      have e1 : gt (xs.drop n) = fun i => gt xs (n + i) := funext fun i => gt_drop _ _ _
      have e2 : (fun i => gt (ys.drop n) i + ev G (gt (xs.drop n) i)) = lackAt xs ys G n := funext fun i => by rw [gt_drop, gt_drop]; rfl
      have e3 : (fun i => ev (ntF (xs.take n) n) (gt (xs.drop n) i)) = fun i => ev (ntF (xs.take n) n) (gt xs (n + i)) := funext fun i => by rw [gt_drop]
      rw [e2, e3, e1] at hC
      exact hC
    have hb34 : Below w3.heap.size w3 w4 := ⟨hb4.os, hb4.tape, hb4.output, hb4.size, hb4.block⟩
    have hG4 := hG3.below hb34
    have hZ4 := hZ.below hb34
    have hB4 := hB3.trans (hb34.mono hB3.size)
    clear hC hb4 hb34
    go_wp2
    go_loopw [16] (fun v wr => ∃ few : Nat, few ≤ most ∧ v = .int .i64 few ∧ Below w4.heap.size w4 wr) (fun v _ => most - (intOf v).toNat)
    case atStart => exact ⟨0, by omega, rfl, Below.refl _ _⟩
    case round =>
      obtain ⟨few, hfm, rfl, hbel⟩ := hrel
      have hBw := hB4.trans (hbel.mono hB4.size)
      have hZr := hZ4.below hbel
      have hGr := hG4.below hbel
      have hCr := hC4.below hbel
      go_wp2_with fail
      refine (lacking_c ZA (some ⟨kb, 0, none⟩) z cz (t' - n) _ few (ntF (xs.take n) n) _ _ _ _ hZr hCr (by omega) (by omega) (by omega) (by omega)).mono ?_
      rintro e w5 ⟨UA, u, cu, ul, ok, rfl, hU, hb5, hspec⟩
      have hB5 := hBw.trans (hb5.mono hBw.size)
      cases ok with
      | true =>
        have HF := Lib.hid (lk_yes HS.out hspec)
        have hul : u ≤ n := by have h1 := lk_short HS.out hspec; have h2 := hU.row.len; omega
        have hG5 := hGr.below hb5
        clear hspec hZr hCr hGr hbel hBw
        go_wp2_with fail
        refine (Add_poly GA UA g u cg cu G ul _ hG5.row hU.row (by omega) (by omega)).mono ?_
        rintro e w6 ⟨A6, t6, c6, rfl, hown6, hb6⟩
        have HR6 := Lib.hid (own_in hown6)
        clear hown6
        go_wp2
        go_ret2
        exact ⟨.inl ⟨A6, t6, c6, _, rfl, HR6.out, HF.out.mono hfm⟩, hB5.trans (hb6.mono hB5.size)⟩
      | false =>
        have HNO := Lib.hid (lk_no HS.out (by omega) hspec)
        have hb45 := hbel.trans (hb5.mono hbel.size)
        clear hspec hZr hCr hGr hbel hBw hb5 hU
        by_cases hfe : few = most
        · have hq : ((few : Int) == (most : Int)) = true := by rw [beq_iff_eq]; omega
          have HNM : Hid (∀ P, ¬ Fit xs ys t' n most P) := by rw [← hfe]; exact HNO.out
          clear hfe HNO
          go_wp2
          go_ret2
          exact ⟨.inr ⟨rfl, HNM.out⟩, hB5⟩
        · have hq : ((few : Int) == (most : Int)) = false := by rw [Bool.eq_false_iff, ne_eq, beq_iff_eq]; omega
          obtain ⟨f2, hf2⟩ : ∃ f2 : Nat, f2 = min (2 * few + 1) most := ⟨_, rfl⟩
          have hmin : min (2 * (few : Int) + 1) (most : Int) = (f2 : Int) := by omega
          have hlt2 : few < f2 := by omega
          have hle2 : f2 ≤ most := by omega
          clear hf2 hfe
          go_wp2
          go_roundw
          case rel => exact ⟨f2, hle2, by first | rfl | go_num, hb45⟩
          case measure => simp [intOf]; omega

/-- the places that are there, of the first k, at which two words differ -/
def dfF (l : List F) (th : List Bool) (told : List F) : Nat → List Nat
  | 0 => []
  | k + 1 => if gb th k = true ∧ gt l k ≠ gt told k then dfF l th told k ++ [k] else dfF l th told k
theorem dfF_le (l : List F) (th : List Bool) (told : List F) (k : Nat) : (dfF l th told k).length ≤ k := by
  induction k with
  | zero => exact Nat.le_refl _
  | succ k ih =>
    unfold dfF
    split
    · rw [List.length_append]; simp; omega
    · omega
theorem n_bne2 (a b : F) : ((a.n : Int) != (b.n : Int)) = !decide (a = b) := by rw [← n_beq2]; rfl
set_option maxHeartbeats 2000000 in
theorem differing_c (A B T : Option Addr) (len ca cb ct : Nat) (l : List F) (th : List Bool) (told : List F) (w : World) (h : Row w A len l) (hb : BRow w B len th) (ht : Row w T len told) (hlen : len ≤ 255) :
    Calls Try.prog 19 #[.slice A len ca, .slice B len cb, .slice T len ct] w fun e w' => ∃ D d cd, e = .returned (.slice D d cd) ∧ Hid (d = (dfF l th told len).length) ∧ w'.ownsRow w.heap.size 3 1 (.slice D d cd) d (pivC (dfF l th told len)) ∧ Below w.heap.size w w' := by
  obtain ⟨i0, hi0, hz0, hz1, hz2⟩ := info_parts info_int
  go_enter Try.func19, Try.ntmps19
  go_wp2
  go_loopw [7, 12] (fun v i wr => ∃ (k : Nat) (D : Option Addr) (d cd : Nat), k ≤ len ∧ i = .int .i64 k ∧ v = .slice D d cd ∧ Hid (d = (dfF l th told k).length) ∧ wr.ownsRow w.heap.size 3 1 (.slice D d cd) d (pivC (dfF l th told k)) ∧ Below w.heap.size w wr) (fun _ i _ => len - (intOf i).toNat)
  case atStart => exact ⟨0, none, 0, 0, by omega, rfl, rfl, rfl, World.ownsRow_nil _ _ _ _, Below.refl _ _⟩
  case round =>
    obtain ⟨k, D, d, cd, hk, rfl, rfl, hd, hown, hbel⟩ := hrel
    by_cases hlt : k < len
    · have hkn : (k : Int) < len := by omega
      obtain ⟨b2, o2, e2, l2, h2⟩ := hb.at_ hlt
      replace h2 := (hbel.cell (p := ⟨b2, o2 + k, none⟩) l2).trans h2
      cases hg : gb th k with
      | false =>
        rw [hg] at h2
        have hc : Hid (dfF l th told (k + 1) = dfF l th told k) := if_neg (by rw [hg]; simp)
        subst e2
        clear hg
        go_wp2
        go_quiet (fail)
        go_wp2
        go_roundw
        case rel => exact ⟨k + 1, D, d, cd, by omega, by go_num, rfl, by rw [hc.out]; exact hd, by rw [hc.out]; exact hown, below_drewN hbel _⟩
        case measure => simp [intOf]; omega
      | true =>
        rw [hg] at h2
        obtain ⟨b1, o1, e1, l1, h1⟩ := h.at_ hlt
        obtain ⟨b3, o3, e3, l3, h3⟩ := ht.at_ hlt
        subst e1 e2 e3
        replace h1 := (hbel.cell (p := ⟨b1, o1 + k, none⟩) l1).trans h1
        replace h3 := (hbel.cell (p := ⟨b3, o3 + k, none⟩) l3).trans h3
        have hne := n_bne2 (gt l k) (gt told k)
        by_cases hE : gt l k = gt told k
        · have hc : Hid (dfF l th told (k + 1) = dfF l th told k) := if_neg (fun e => e.2 hE)
          rw [decide_eq_true hE] at hne
          clear hg hE
          go_wp2
          go_quiet (fail)
          go_wp2
          go_roundw
          case rel => exact ⟨k + 1, D, d, cd, by omega, by go_num, rfl, by rw [hc.out]; exact hd, by rw [hc.out]; exact hown, below_drewN hbel _⟩
          case measure => simp [intOf]; omega
        · have hc : Hid (dfF l th told (k + 1) = dfF l th told k ++ [k]) := if_pos ⟨hg, hE⟩
          have hle := dfF_le l th told k
          rw [← hd.out] at hle
          have hd2 : Hid (d + 1 = (dfF l th told (k + 1)).length) := by unfold Hid; rw [hc.out, List.length_append, ← hd.out]; rfl
          rw [decide_eq_false hE] at hne
          clear hg hE
          go_wp2
          go_quiet (fail)
          go_wp2_with (at_builtin; refine wpList_append_own _ rfl (.tmp 29) (.tmp 31) 33 rfl w.heap.size 3 i0 (.int .i64 0) 1 8 Try.underlying33 hi0 hz0 hz1 hz2 rfl (by decide) (.slice D d cd) d (pivC (dfF l th told k)) rfl (World.ownsRow.alloc (w := wr.drewN nq) (by exact hown) _) ⟨wr.heap.size, 0, none⟩ 1 1 [.int .i64 k] rfl rfl (one_cell (wr.drewN nq) _ _) (by intro u hu; simp at hu; subst hu; rfl) (by unfold maxLen; omega) (by omega) (by have := hbel.size; simp; omega) ?_; intro v5 w5 hown5 hgrow5 hnil5)
          rw [← pivC_append, ← hc.out] at hown5
          obtain ⟨D5, c5, rfl, -⟩ := own_shape hown5
          have hb5 : Below w.heap.size w w5 := ((below_drewN hbel nq).alloc hbel.size _).grown hgrow5 (by have := hbel.size; simp; omega) (fun z e => (hown.lt z e).1)
          go_wp2
          go_roundw
          case rel => exact ⟨k + 1, D5, d + 1, c5, by omega, by go_num, rfl, hd2, hown5, hb5⟩
          case measure => simp [intOf]; omega
    · obtain rfl : k = len := by omega
      go_wp2
      go_ret
      exact ⟨D, d, cd, rfl, hd, hown, hbel⟩

/-- what Decode wants of its arguments -/
def DecOk (len lenb : Nat) (n : Int) : Prop := len = lenb ∧ 1 ≤ n ∧ n ≤ len ∧ len ≤ 255
instance (len lenb : Nat) (n : Int) : Decidable (DecOk len lenb n) := inferInstanceAs (Decidable (_ ∧ _ ∧ _ ∧ _))
theorem Decode_arg (A B : Option Addr) (len ca lenb cb : Nat) (n : Int) (w : World) (hbad : ¬ DecOk len lenb n) :
    Calls Try.prog 8 #[.slice A len ca, .slice B lenb cb, .int .i64 n] w fun e w' => e = .returned (.tuple #[.slice none 0 0, .int .i64 0, .int .i64 1]) ∧ w = w' := by
  unfold DecOk at hbad
  go_enter Try.func8, Try.ntmps8
  by_cases h1 : len = lenb
  · subst h1
    by_cases h2 : n < 1
    · clear hbad
      go_wp2
      go_ret3
      exact ⟨rfl, rfl⟩
    · by_cases h3 : (len : Int) < n
      · clear hbad
        go_wp2
        go_ret3
        exact ⟨rfl, rfl⟩
      · have h4 : (255 : Int) < (len : Int) := by omega
        clear hbad
        go_wp2
        go_ret3
        exact ⟨rfl, rfl⟩
  · have h2 : ((len : Int) != (lenb : Int)) = true := by rw [bne_iff_ne]; omega
    clear hbad h1
    go_wp2
    go_ret3
    exact ⟨rfl, rfl⟩
/-- how many may be wrong -/
theorem mostI_lost {t N : Nat} (h : t < N) : mostI t (N : Int) = -1 := if_pos (.inr (by omega))
theorem mostI_some {t N : Nat} (h1 : 1 ≤ N) (h : N ≤ t) : mostI t (N : Int) = (((t - N) / 2 : Nat) : Int) := by
  unfold mostI
  rw [if_neg (by omega)]
  omega
theorem fth_all (th : List Bool) (n k : Nat) (h : k ≤ n) : (fth th n k).length = cntT th k := by
  induction k with
  | zero => rfl
  | succ k ih =>
    have ih := ih (by omega)
    have h2 := fth_le_k th n k
    unfold fth cntT
    by_cases hg : gb th k = true
    · rw [if_pos ⟨hg, by omega⟩, if_pos hg, List.length_append, ih]
      rfl
    · rw [if_neg (fun e => hg e.1), if_neg hg, ih]
/-- what Decode tells of a word, a word and its places being in order -/
def DecRes (w w' : World) (l : List F) (th : List Bool) (len N : Nat) (e : Ending) : Prop :=
  (∃ T ct P, e = .returned (.tuple #[.slice T len ct, .int .i64 ((dfF l th (vals P 0 len) len).length : Nat), .int .i64 0]) ∧ w'.ownsRow w.heap.size 5 1 (.slice T len ct) len (cs (vals P 0 len)) ∧ N ≤ cntT th len ∧ Fit (thX th len len) (thY l th len len) (cntT th len) N ((cntT th len - N) / 2) P) ∨
  (e = .returned (.tuple #[.slice none 0 0, .int .i64 0, .int .i64 52]) ∧ (N ≤ cntT th len → ∀ P, ¬ Fit (thX th len len) (thY l th len len) (cntT th len) N ((cntT th len - N) / 2) P))
set_option maxHeartbeats 4000000 in
theorem Decode_c (A B : Option Addr) (len ca cb N : Nat) (l : List F) (th : List Bool) (w : World) (h : Row w A len l) (hb : BRow w B len th) (hok : DecOk len len (N : Int)) :
    Calls Try.prog 8 #[.slice A len ca, .slice B len cb, .int .i64 (N : Int)] w fun e w' => DecRes w w' l th len N e ∧ Below w.heap.size w w' := by
  obtain ⟨i0, hi, hz0, hz1, hz2⟩ := info_parts info_u8
  obtain ⟨-, hN1, hN2, hlen⟩ := hok
  have hmost := Most_c B len cb (N : Int) (by omega) th w hb
  have hn1 : ¬ (N : Int) < 1 := by omega
  have hn2 : ¬ (len : Int) < (N : Int) := by omega
  have hn3 : ¬ (255 : Int) < (len : Int) := by omega
  have hN1' : 1 ≤ N := by omega
  have hN2' : N ≤ len := by omega
  by_cases hc : N ≤ cntT th len
  · rw [mostI_some hN1' hc] at hmost
    obtain ⟨most, hmo⟩ : ∃ most, most = (cntT th len - N) / 2 := ⟨_, rfl⟩
    have hmean := meant_c A B len ca cb N most (cntT th len) l th w h hb hlen hN1' (by unfold Hid; exact (fth_all th len len (Nat.le_refl _)).symm) (by omega)
    rw [← hmo] at hmost
    have HMO := Lib.hid hmo
    have HMOST := Lib.hid hmost
    have HMEAN := Lib.hid hmean
    have HC := Lib.hid hc
    have hm0 : ¬ (most : Int) < 0 := by omega
    clear hmo hmost hmean hc
    go_enter Try.func8, Try.ntmps8
    go_wp2_with (go_at_call 16; refine HMOST.out.mono ?_; rintro e w' ⟨rfl, rfl⟩)
    refine HMEAN.out.mono ?_
    rintro e w1 ⟨hres, hb1⟩
    rcases hres with ⟨PA, p, cp, P, rfl, hP, hfit⟩ | ⟨rfl, hno⟩
    · have HF := Lib.hid hfit
      have hh1 := h.below hb1
      have hhb1 := hb.below hb1
      have hpl : p ≤ N := by have h1 := hP.row.len; have h2 := hfit.le; omega
      clear hfit HMEAN HMOST
      go_wp2_with (at_make; refine wpList_make_full _ rfl _ _ 22 rfl w1.heap.size 5 i0 (.int .u8 0) 1 Try.underlying22 hi hz0 hz1 _ _ _ _ len rfl rfl rfl rfl (by rw [hz2]; omega) (by unfold maxLen; omega) (Nat.le_refl _) ?_; intro w0 hown0 hgrow0)
      go_wp2
      go_loopw [54] (fun i wr => ∃ k : Nat, k ≤ len ∧ i = .int .i64 k ∧ wr.ownsRow w1.heap.size 5 1 (.slice (some ⟨w1.heap.size, 0, none⟩) len len) len (cs (part (vals P 0 len) k)) ∧ Below w1.heap.size w1 wr) (fun i _ => len - (intOf i).toNat)
      case atStart => exact ⟨0, by omega, rfl, part_cells _ _ _ _ (vals_length _ _ _) hown0, (Below.refl _ _).grown hgrow0 (Nat.le_refl _) (fun k h => by cases h)⟩
      case round =>
        obtain ⟨k, hk, rfl, hown, hbel⟩ := hrel
        by_cases hlt : k < len
        · have hkn : (k : Int) < len := by omega
          have hPr := hP.below hbel
          have hcv := plI_conv k
          have hcv2 : IntKind.u8.wrap (k : Int) = ((plI k).n : Int) := by rw [u8_wrap (by omega), ← hcv]; omega
          have hval : Hid (ev P (plI k) = gt (vals P 0 len) k) := by unfold Hid; rw [gt_vals, if_pos hlt, Nat.zero_add]
          have hl2 : Hid ((part (vals P 0 len) k).length = len) := by unfold Hid; rw [part_length, vals_length]
          clear hgrow0 hown0 HC HF
          go_wp2_with fail
          refine (Eval_c PA p cp P (plI k) _ hPr.row).mono ?_
          rintro e _ ⟨rfl, q, rfl⟩
          have hown2 : (wr.drewN q).ownsRow w1.heap.size 5 1 (.slice (some ⟨w1.heap.size, 0, none⟩) len len) len (cs (part (vals P 0 len) k)) := hown
          have hbel2 := below_drewN hbel q
          clear hown hbel hPr
          generalize wr.drewN q = w2 at *
          have hfz := hown2.frozenAt k
          have hc2 := hown2.cellAt k (by omega)
          rw [cs_at (by rw [hl2.out]; exact hlt)] at hc2
          rw [hval.out]
          have hst := Lib.hid (hown2.stored k (.int .u8 (gt (vals P 0 len) k).n)).1
          go_wp2
          go_roundw
          case rel =>
            refine ⟨k + 1, by omega, by go_num, ?_, hbel2.setCell (Nat.le_refl _) _⟩
            have hs := hst.out
            rw [cs_set, part_set _ _ (by rw [vals_length]; exact hlt)] at hs
            exact hs
          case measure => simp [intOf]; omega
        · have hk2 : Hid (part (vals P 0 len) k = vals P 0 len) := by
            unfold Hid
            rw [show k = (vals P 0 len).length by rw [vals_length]; omega, part_all]
          obtain rfl : k = len := by omega
          rw [hk2.out] at hown
          have hhr := hh1.below hbel
          have hhbr := hhb1.below hbel
          have hT := (own_in hown).row
          have hB := hb1.trans (hbel.mono hb1.size)
          clear hgrow0 hown0
          go_wp2_with fail
          refine (differing_c A B (some ⟨w1.heap.size, 0, none⟩) k ca cb k l th (vals P 0 k) wr hhr hhbr hT hlen).mono ?_
          rintro e w3 ⟨D, d, cd, rfl, hd, hown3, hb3⟩
          have hown4 := own_below hown hb3
          clear hown3 hhr hhbr hT
          go_wp2
          go_ret3
          refine ⟨.inl ⟨some ⟨w1.heap.size, 0, none⟩, k, P, by rw [← hd.out]; rfl, own_base hown4 hb1.size, HC.out, ?_⟩, hB.trans (hb3.mono hB.size)⟩
          rw [← HMO.out]
          exact HF.out
    · have HNO : Hid (∀ P, ¬ Fit (thX th len len) (thY l th len len) (cntT th len) N ((cntT th len - N) / 2) P) := by rw [← HMO.out]; exact hno
      clear hno HMEAN HMOST
      go_wp2
      go_ret3
      exact ⟨.inr ⟨rfl, fun _ => HNO.out⟩, hb1⟩
  · rw [mostI_lost (by omega)] at hmost
    have HMOST := Lib.hid hmost
    have HC := Lib.hid hc
    clear hmost hc
    go_enter Try.func8, Try.ntmps8
    go_wp2_with (go_at_call 16; refine HMOST.out.mono ?_; rintro e w' ⟨rfl, rfl⟩)
    go_ret3
    exact ⟨.inr ⟨rfl, fun e => absurd e HC.out⟩, Below.refl _ _⟩
end Go.Proofs.Ytcodgamhgfafnaa
