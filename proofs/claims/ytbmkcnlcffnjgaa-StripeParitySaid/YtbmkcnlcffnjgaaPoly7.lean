/-
  THE CONTRACT OF poly.Through. Rows of at most 2^30 bytes.
-/
import Derived.Test.YtbmkcnlcffnjgaaPoly6
namespace Go.Proofs.Ytbmkcnlcffnjgaa
open Go.RowKit
set_option maxRecDepth 100000
set_option linter.unusedVariables false

/-- a trimmed row, no longer than there are places, that has the values there -/
structure IsThrough (xs ys t : List F) : Prop where
  tt : tr t = t
  le : t.length ≤ xs.length
  val : ∀ i, i < xs.length → ev t (gt xs i) = gt ys i
theorem mem_gt {l : List F} {x : F} (h : x ∈ l) : ∃ i, i < l.length ∧ gt l i = x := by
  obtain ⟨i, hi, e⟩ := List.getElem_of_mem h
  exact ⟨i, hi, by rw [gt_lt hi, e]⟩
theorem IsThrough.unique {xs ys t t' : List F} (hd : xs.Nodup) (h : IsThrough xs ys t) (h' : IsThrough xs ys t') : t = t' := by
  rw [← h.tt, ← h'.tt]
  refine same_of_values xs.length t t' xs (fun i hi => gt_ge (by have := h.le; omega)) (fun i hi => gt_ge (by have := h'.le; omega)) rfl hd fun x hx => ?_
  obtain ⟨i, hi, rfl⟩ := mem_gt hx
  rw [h.val i hi, h'.val i hi]
theorem ev_scale (z : List F) (s x : F) : ev (scaleF z s) x = ev z x * s := by
  have e : scaleF z s = pscale s z := by
    unfold scaleF pscale
    exact List.map_congr_left fun y _ => mul_comm y s
  rw [e, ev_pscale, mul_comm]
theorem gt_inj {xs : List F} (hd : xs.Nodup) {i j : Nat} (hi : i < xs.length) (hj : j < xs.length) (e : gt xs i = gt xs j) : i = j := by
  rw [gt_lt hi, gt_lt hj] at e
  have h := List.pairwise_iff_getElem.1 hd
  rcases Nat.lt_trichotomy i j with h1 | h1 | h1
  · exact absurd e (h i j hi hj h1)
  · exact h1
  · exact absurd e.symm (h j i hj hi h1)
/-- what holds when k places have been gone through -/
structure Newton (xs ys : List F) (k : Nat) (P Z : List F) : Prop where
  tp : tr P = P
  lp : P.length ≤ k
  vp : ∀ i, i < k → ev P (gt xs i) = gt ys i
  lz : Z.length ≤ k + 1
  z0 : ∀ i, i < k → ev Z (gt xs i) = 0
  z1 : ∀ x, (∀ i, i < k → gt xs i ≠ x) → ev Z x ≠ 0
theorem Newton.start (xs ys : List F) : Newton xs ys 0 [] [1] :=
  ⟨rfl, Nat.le_refl _, fun i hi => by omega, Nat.le_refl _, fun i hi => by omega, fun x _ => by
    show (1 : F) + x * 0 ≠ 0
    rw [mul_zero, add_zero]
    exact one_ne_zero⟩
theorem tr_le (l : List F) : (tr l).length ≤ l.length := by rw [tr_length]; exact tl_le _ _
theorem Newton.step {xs ys P Z : List F} {k : Nat} (hd : xs.Nodup) (hk : k < xs.length) (h : Newton xs ys k P Z) :
    ev Z (gt xs k) ≠ 0 ∧ Newton xs ys (k + 1) (tr (padd P (scaleF Z ((ev P (gt xs k) + gt ys k) * inv (ev Z (gt xs k)))))) (tr (pmul Z [gt xs k, 1])) := by
  have hz : ev Z (gt xs k) ≠ 0 := h.z1 _ fun i hi e => by
    have := gt_inj hd (by omega) hk e
    omega
  have hm : ∀ x, ev (pmul Z [gt xs k, 1]) x = ev Z x * (gt xs k + x) := fun x => by
    rw [ev_pmul]
    congr 1
    show gt xs k + x * (1 + x * 0) = _
    rw [mul_zero, add_zero, mul_one]
  refine ⟨hz, tr_tr _, ?_, fun i hi => ?_, ?_, fun i hi => ?_, fun x hx => ?_⟩
  · have := tr_le (padd P (scaleF Z ((ev P (gt xs k) + gt ys k) * inv (ev Z (gt xs k)))))
    rw [padd_length, scale_length] at this
    have h1 := h.lp
    have h2 := h.lz
    omega
  · rw [ev_tr, ev_padd, ev_scale]
    rcases Nat.lt_or_ge i k with h1 | h1
    · rw [h.z0 i h1, zero_mul, add_zero, h.vp i h1]
    · obtain rfl : i = k := by omega
      rw [mul_left_comm, mul_inv hz, mul_one, add_add_cancel]
  · have := tr_le (pmul Z [gt xs k, 1])
    have h1 := pmul_length_le Z [gt xs k, 1]
    have h2 := h.lz
    by_cases hq : (tr (pmul Z [gt xs k, 1])).length ≤ k + 2
    · exact hq
    · exfalso
      have h3 : (tr (pmul Z [gt xs k, 1])).length ≤ Z.length - 1 + 1 + 1 := by
        rw [tr_length]
        refine tl_le_of _ _ _ fun i hi => ?_
        exact pmul_ge Z [gt xs k, 1] (Z.length - 1) 1 (fun j hj => gt_ge (by omega)) (fun j hj => gt_ge (by simp; omega)) i (by omega)
      by_cases hzl : Z.length = 0
      · have hz2 : Z = [] := List.eq_nil_of_length_eq_zero hzl
        subst hz2
        simp [pmul] at hq
        have := tr_le ([] : List F)
        simp at this
        rw [this] at hq
        simp at hq
      · omega
  · rw [ev_tr, hm]
    rcases Nat.lt_or_ge i k with h1 | h1
    · rw [h.z0 i h1, zero_mul]
    · obtain rfl : i = k := by omega
      rw [add_self, mul_zero]
  · rw [ev_tr, hm]
    intro e
    rcases mul_eq_zero.1 e with h1 | h1
    · exact h.z1 x (fun i hi => hx i (by omega)) h1
    · exact hx k (by omega) (add_eq_zero.1 h1)
theorem Newton.fin {xs ys P Z : List F} (h : Newton xs ys xs.length P Z) : IsThrough xs ys P := ⟨h.tp, h.lp, h.vp⟩

theorem Div_nz_c (a : F) {b : F} (h : b ≠ 0) (w : World) : Calls Try.prog 56 #[.int .u8 a.n, .int .u8 b.n] w fun e w' => e = .returned (.tuple #[.int .u8 (a * inv b).n, .bool true]) ∧ w = w' := by
  have h1 := Div_c a b w
  rw [decide_eq_false h, show divF a b = a * inv b from if_neg h] at h1
  exact h1
set_option maxHeartbeats 1000000 in
theorem Through_arg (A B : Option Addr) (n m ca cb : Nat) (w : World) (h : n ≠ m) (hn : n ≤ 9223372036854775807) (hm : m ≤ 9223372036854775807) :
    Calls Try.prog 49 #[.slice A n ca, .slice B m cb] w fun e w' => e = .returned (.tuple #[.slice none 0 0, .int .i64 1]) ∧ w = w' := by
  have h1 : ((n : Int) != (m : Int)) = true := by rw [bne_iff_ne]; omega
  clear h
  go_enter Try.func49, Try.ntmps49
  go_wp2
  go_ret2
  exact ⟨rfl, rfl⟩
set_option maxHeartbeats 1000000 in
theorem Through_twice (A B : Option Addr) (n ca cb : Nat) (xs : List F) (w : World) (hx : Row w A n xs) (hd : ¬ xs.Nodup) :
    Calls Try.prog 49 #[.slice A n ca, .slice B n cb] w fun e w' => e = .returned (.tuple #[.slice none 0 0, .int .i64 5]) ∧ Below w.heap.size w w' := by
  have hm := hx.max
  have hs := standTwice_c A n ca xs w hx
  rw [decide_eq_false hd] at hs
  have HS := Lib.hid hs
  clear hs hd
  go_enter Try.func49, Try.ntmps49
  go_wp2_with (go_at_call 55; refine HS.out.mono ?_; rintro e w1 ⟨rfl, hbel⟩)
  go_ret2
  exact ⟨rfl, hbel⟩
set_option maxHeartbeats 2000000 in
theorem Through_ok (A B : Option Addr) (n ca cb : Nat) (xs ys : List F) (w : World) (hx : Row w A n xs) (hy : Row w B n ys) (hd : xs.Nodup) (hn : n ≤ 1073741824) :
    Calls Try.prog 49 #[.slice A n ca, .slice B n cb] w fun e w' => ∃ A' t c' T, e = .returned (.tuple #[.slice A' t c', .int .i64 0]) ∧ RowIn w' A' t c' T ∧ IsThrough xs ys T ∧ Below w.heap.size w w' := by
  have hs := standTwice_c A n ca xs w hx
  rw [decide_eq_true hd] at hs
  have HS := Lib.hid hs
  have HD := Lib.hid hd
  have HLX := Lib.hid hx.len
  clear hs hd
  go_enter Try.func49, Try.ntmps49
  go_wp2_with (go_at_call 55; refine HS.out.mono ?_; rintro e w1 ⟨rfl, hbel1⟩)
  go_loopw [6, 7, 23] (fun v z i wr => ∃ (k : Nat) (TA : Option Addr) (t tc : Nat) (T : List F) (ZA : Option Addr) (zn zc : Nat) (Z : List F), k ≤ n ∧ i = .int .i64 k ∧ v = .slice TA t tc ∧ z = .slice ZA zn zc ∧ RowIn wr TA t tc T ∧ RowIn wr ZA zn zc Z ∧ Below w.heap.size w wr ∧ Hid (Newton xs ys k T Z)) (fun _ _ i _ => n - (intOf i).toNat)
  case atStart =>
    refine ⟨0, none, 0, 0, [], _, 1, 1, [1], by omega, rfl, rfl, rfl, RowIn.nil_ _, ⟨row_lit w1 [1] 1 _ rfl rfl (by unfold maxLen; simp) _ rfl _, Nat.le_refl _, by unfold maxLen; omega⟩, hbel1.alloc hbel1.size _, Newton.start xs ys⟩
  case round =>
    clear hbel1
    obtain ⟨k, TA, t, tc, T, ZA, zn, zc, Z, hk, rfl, rfl, rfl, hT, hZ, hbel, hnw⟩ := hrel
    by_cases hlt : k < n
    · have hx1 := hx.below hbel
      have hy1 := hy.below hbel
      obtain ⟨b1, o1, rfl, l1, q1⟩ := hx1.at_ hlt
      obtain ⟨b2, o2, rfl, l2, q2⟩ := hy1.at_ hlt
      have hkn : (k : Int) < n := by omega
      have hstep := hnw.out.step HD.out (by rw [HLX.out]; exact hlt)
      have HST := Lib.hid hstep.2
      have HZ0 := Lib.hid hstep.1
      have hlT := hnw.out.lp
      have hlZ := hnw.out.lz
      rw [hT.row.len] at hlT
      rw [hZ.row.len] at hlZ
      clear hstep
      go_wp2
      go_quiet ((first | (go_at_call 48; exact quiet_one (Eval_c TA t tc T (gt xs k) _ (hT.row.drewN _))) | (go_at_call 53; first | exact quiet_add_left (Add_c _ _ _) | exact quiet_left (Add_c _ _ _))))
      have hbel2 := below_drewN hbel nq
      have hT2 : RowIn (wr.drewN nq) TA t tc T := ⟨hT.row.drewN nq, hT.le, hT.max⟩
      have hZ2 : RowIn (wr.drewN nq) ZA zn zc Z := ⟨hZ.row.drewN nq, hZ.le, hZ.max⟩
      clear hT hZ hbel q1 q2 hx1 hy1
      have hrowZ := hZ2.row
      generalize wr.drewN nq = W at *
      clear hx hy HS
      go_wp2_with fail
      refine (Eval_c ZA zn zc Z (gt xs k) W hrowZ).mono ?_
      rintro e _ ⟨rfl, q, rfl⟩
      go_wp2_with (go_at_call 56; refine (Div_nz_c _ HZ0.out _).mono ?_; rintro e w' ⟨rfl, rfl⟩)
      refine (Scale_c ZA zn zc Z ((ev T (gt xs k) + gt ys k) * inv (ev Z (gt xs k))) _ (hrowZ.drewN q) (by omega)).mono ?_
      rintro e w3 ⟨g, rfl, hownS, hbelS⟩
      have hT3 := (hT2.row.drewN q).below hbelS
      have hZ3 := (hZ2.row.drewN q).below hbelS
      have hbel3 := (below_drewN hbel2 q).trans (hbelS.mono (below_drewN hbel2 q).size)
      have hrS := Row.of_own hownS
      go_wp2_with fail
      refine (Add_poly TA _ t zn tc zn T _ _ hT3 hrS (by omega) (by omega)).mono ?_
      rintro e w4 ⟨TA2, t2, tc2, rfl, hownT, hbelT⟩
      have hZ4 := hZ3.below hbelT
      have hbel4 := hbel3.trans (hbelT.mono hbel3.size)
      have hrT := Row.of_own hownT
      have hZ5 := hZ4.alloc (.cells #[.int .u8 (gt xs k).n, .int .u8 1] 5)
      have hT5 := hrT.alloc (.cells #[.int .u8 (gt xs k).n, .int .u8 1] 5)
      have hX5 : Row (w4.alloc (.cells #[.int .u8 (gt xs k).n, .int .u8 1] 5)) (some ⟨w4.heap.size, 0, none⟩) 2 [gt xs k, 1] := row_lit w4 [gt xs k, 1] 2 _ rfl rfl (by unfold maxLen; simp) _ rfl _
      have hbel5 := hbel4.alloc hbel4.size (.cells #[.int .u8 (gt xs k).n, .int .u8 1] 5)
      have hcT := own_cap hownT
      go_wp2_with fail
      refine (Mul_poly ZA _ zn 2 zc 2 Z [gt xs k, 1] _ hZ5 hX5 hZ2.le (Nat.le_refl _) hZ2.max (by unfold maxLen; omega) (by omega) (by omega)).mono ?_
      rintro e w6 ⟨ZA2, zn2, zc2, rfl, hownZ, hbelZ⟩
      have hT6 := hT5.below hbelZ
      have hbel6 := hbel5.trans (hbelZ.mono hbel5.size)
      have hrZ := Row.of_own hownZ
      have hcZ := own_cap hownZ
      have HRT : RowIn w6 TA2 t2 tc2 _ := ⟨hT6, hcT.1, by unfold maxLen; exact hcT.2⟩
      have HRZ : RowIn w6 ZA2 zn2 zc2 _ := ⟨hrZ, hcZ.1, by unfold maxLen; exact hcZ.2⟩
      clear hownS hownT hownZ hbelS hbelT hbelZ hZ5 hT5 hX5 hZ4 hT3 hZ3 hrS hrT hT2 hZ2 hrowZ hT6 hrZ
      go_wp2
      go_roundw
      case rel => exact ⟨k + 1, TA2, t2, tc2, _, ZA2, zn2, zc2, _, by omega, by go_num, rfl, rfl, HRT, HRZ, hbel6, HST.out⟩
      case measure => simp [intOf]; omega
    · obtain rfl : k = n := by omega
      have hfin : Hid (IsThrough xs ys T) := by
        have h := hnw.out
        rw [← HLX.out] at h
        exact h.fin
      go_wp2
      go_ret2
      exact ⟨TA, t, tc, T, rfl, hT, hfin, hbel⟩
end Go.Proofs.Ytbmkcnlcffnjgaa
