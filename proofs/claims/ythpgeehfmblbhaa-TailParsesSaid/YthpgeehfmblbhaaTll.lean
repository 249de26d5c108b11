/-
  TAILS: the document's Parse. No conditions (but for how many bytes there are).
-/
import Derived.Test.YthpgeehfmblbhaaTlk
namespace Go.Proofs.Ythpgeehfmblbhaa
open Go.RowKit
set_option maxRecDepth 100000
set_option linter.unusedVariables false

theorem info_tlR : (Try.prog.info? 27).map (·.size) = some 9 := by kernel_rfl
theorem ld_tlR {w : World} {g : Nat} {C : Array Value} (h : Blk w g 27 C) (hC : C.size = 9) : Sem.run Try.prog (loadVar 27 ⟨g, 0, none⟩) w = .ok (.agg C) w :=
  run_loadVar_row w g _ _ _ (0, 0) _ h Try.underlying27 rfl (by rw [info_tlR, hC])
theorem st_tlR {w : World} {g : Nat} {C : Array Value} (h : Blk w g 27 C) (hC : C.size = 9) (D : Array Value) (hD : D.size = 9) (h1 : D.all (·.oneCell') = true) :
    Sem.run Try.prog (storeVar 27 ⟨g, 0, none⟩ (.agg D)) w = .ok () (w.setRow g D) :=
  run_storeVar_row w g _ _ _ _ h (by rw [info_tlR, hD]) (by rw [hC, hD]) h1
set_option maxHeartbeats 4000000 in
theorem RParseT_no (A : Option Addr) (n c : Nat) (a : List F) (B : Option Addr) (m d : Nat) (b : List F) (C : Option Addr) (k f : Nat) (z : List F) (w : World) (hA : RowIn w A n c a) (hB : RowIn w B m d b) (hC : RowIn w C k f z) (hn : n ≤ 1000000) (hm : m ≤ 1000000) (hk : k ≤ 1000000)
    (hno : pE a 101075792 56 ≠ 0 ∨ pE b 117853008 20 ≠ 0 ∨ pE z 101010256 22 ≠ 0) :
    Calls Try.prog 17 #[.slice A n c, .slice B m d, .slice C k f] w fun e w' => e = .returned (.tuple #[tlV (prT a b z).1, .int .i64 (prT a b z).2]) ∧ Below w.heap.size w w' := by
  have hba := (Below.refl w.heap.size w).alloc (Nat.le_refl _) (.cells z9 27)
  have HK0 := Lib.hid (Blk.new w 27 z9)
  have HL0 := Lib.hid hba
  have H1 := Lib.hid (RWhole_c A n c a 101075792 56 _ (hA.below hba) hn (by omega))
  have H2 := Lib.hid (RWhole_c B m d b 117853008 20 _ (hB.below hba) hm (by omega))
  have H3 := Lib.hid (RWhole_c C k f z 101010256 22 _ (hC.below hba) hk (by omega))
  have t2 := st_tlR HK0.out rfl z9 rfl z9_one
  have t3 := ld_tlR (HK0.out.setRow z9) rfl
  have HB9 := Lib.hid (below_setRowS HL0.out (Nat.le_refl _) z9)
  clear hba hA hB hC
  by_cases e1 : pE a 101075792 56 = 0
  · by_cases e2 : pE b 117853008 20 = 0
    · have e3 : pE z 101010256 22 ≠ 0 := by
        rcases hno with h | h | h
        · exact absurd e1 h
        · exact absurd e2 h
        · exact h
      rw [prT_3 e1 e2 e3]
      have b1 : (pE a 101075792 56 != 0) = false := by rw [e1]; rfl
      have b2 : (pE b 117853008 20 != 0) = false := by rw [e2]; rfl
      have b3 : (pE z 101010256 22 != 0) = true := by rw [bne_iff_ne]; exact e3
      clear e1 e2 e3 hno
      generalize pE a 101075792 56 = x1 at *
      generalize pE b 117853008 20 = x2 at *
      generalize pE z 101010256 22 = x3 at *
      unfold z9 at *
      go_enter Try.func17, Try.ntmps17
      go_wp2_with fail
      refine H1.out.mono ?_
      rintro e _ ⟨rfl, rfl⟩
      go_wp2_with fail
      refine H2.out.mono ?_
      rintro e _ ⟨rfl, rfl⟩
      go_wp2_with fail
      refine H3.out.mono ?_
      rintro e _ ⟨rfl, rfl⟩
      go_wp2_with (with_reducible refine wpList_store_var _ _ _ (by with_unfolding_all rfl) (by with_unfolding_all rfl) t2 ?_)
      refine bodyPost_ret (v := .tuple #[.agg z9, .int .i64 x3]) ?_ rfl ⟨rfl, HB9.out⟩
      rw [results_cell_tmp rfl]
      unfold z9
      simp [asAddr, Result.andThen, t3]
    · rw [prT_2 e1 e2]
      have b1 : (pE a 101075792 56 != 0) = false := by rw [e1]; rfl
      have b2 : (pE b 117853008 20 != 0) = true := by rw [bne_iff_ne]; exact e2
      clear e1 e2 hno H3
      generalize pE a 101075792 56 = x1 at *
      generalize pE b 117853008 20 = x2 at *
      unfold z9 at *
      go_enter Try.func17, Try.ntmps17
      go_wp2_with fail
      refine H1.out.mono ?_
      rintro e _ ⟨rfl, rfl⟩
      go_wp2_with fail
      refine H2.out.mono ?_
      rintro e _ ⟨rfl, rfl⟩
      go_wp2_with (with_reducible refine wpList_store_var _ _ _ (by with_unfolding_all rfl) (by with_unfolding_all rfl) t2 ?_)
      refine bodyPost_ret (v := .tuple #[.agg z9, .int .i64 x2]) ?_ rfl ⟨rfl, HB9.out⟩
      rw [results_cell_tmp rfl]
      unfold z9
      simp [asAddr, Result.andThen, t3]
  · rw [prT_1 e1]
    have b1 : (pE a 101075792 56 != 0) = true := by rw [bne_iff_ne]; exact e1
    clear e1 hno H2 H3
    generalize pE a 101075792 56 = x1 at *
    unfold z9 at *
    go_enter Try.func17, Try.ntmps17
    go_wp2_with fail
    refine H1.out.mono ?_
    rintro e _ ⟨rfl, rfl⟩
    go_wp2_with (with_reducible refine wpList_store_var _ _ _ (by with_unfolding_all rfl) (by with_unfolding_all rfl) t2 ?_)
    refine bodyPost_ret (v := .tuple #[.agg z9, .int .i64 x1]) ?_ rfl ⟨rfl, HB9.out⟩
    rw [results_cell_tmp rfl]
    unfold z9
    simp [asAddr, Result.andThen, t3]
set_option maxHeartbeats 4000000 in
theorem RParseT_yes (A : Option Addr) (n c : Nat) (a : List F) (B : Option Addr) (m d : Nat) (b : List F) (C : Option Addr) (k f : Nat) (z : List F) (w : World) (hA : RowIn w A n c a) (hB : RowIn w B m d b) (hC : RowIn w C k f z) (hn : n ≤ 1000000) (hm : m ≤ 1000000) (hk : k ≤ 1000000)
    (z0 : pE a 101075792 56 = 0) (z1 : pE b 117853008 20 = 0) (z2 : pE z 101010256 22 = 0) :
    Calls Try.prog 17 #[.slice A n c, .slice B m d, .slice C k f] w fun e w' => e = .returned (.tuple #[tlV (prT a b z).1, .int .i64 (prT a b z).2]) ∧ Below w.heap.size w w' := by
  obtain ⟨P, hP⟩ : ∃ P, P = prT a b z := ⟨_, rfl⟩
  rw [← hP]
  have HP := Lib.hid hP
  have hn1 : 56 ≤ n := by have := (pE_of z0).1; have := hA.row.len; omega
  have hm1 : 20 ≤ m := by have := (pE_of z1).1; have := hB.row.len; omega
  have hba := (Below.refl w.heap.size w).alloc (Nat.le_refl _) (.cells z9 27)
  have HK0 := Lib.hid (Blk.new w 27 z9)
  have HL0 := Lib.hid hba
  have HA := Lib.hid (hA.below hba)
  have HB := Lib.hid (hB.below hba)
  have HC := Lib.hid (hC.below hba)
  have H1 := Lib.hid (RWhole_c A n c a 101075792 56 _ (hA.below hba) hn (by omega))
  have H2 := Lib.hid (RWhole_c B m d b 117853008 20 _ (hB.below hba) hm (by omega))
  have H3 := Lib.hid (RWhole_c C k f z 101010256 22 _ (hC.below hba) hk (by omega))
  rw [z0] at H1
  rw [z1] at H2
  rw [z2] at H3
  have Z0 := Lib.hid z0
  have Z1 := Lib.hid z1
  have Z2 := Lib.hid z2
  have HW := rdT_wf a b
  obtain ⟨x, hx⟩ : ∃ x, x = rdT a b := ⟨_, rfl⟩
  rw [← hx] at HW
  have HX := Lib.hid hx
  have a1 := atL_lt4 a 16
  have a2 := atL_lt4 a 20
  have a3 := atL_lt4 b 4
  have a4 := atL_lt4 b 16
  have E1 := Lib.hid (show atL a 16 4 = x.di by rw [hx]; rfl)
  have E2 := Lib.hid (show atL a 20 4 = x.st by rw [hx]; rfl)
  have E3 := Lib.hid (show atL a 24 8 = x.he by rw [hx]; rfl)
  have E4 := Lib.hid (show atL a 32 8 = x.co by rw [hx]; rfl)
  have E5 := Lib.hid (show atL a 40 8 = x.sz by rw [hx]; rfl)
  have E6 := Lib.hid (show atL a 48 8 = x.o by rw [hx]; rfl)
  have E7 := Lib.hid (show atL b 4 4 = x.d6 by rw [hx]; rfl)
  have E8 := Lib.hid (show atL b 16 4 = x.ds by rw [hx]; rfl)
  have E9 := Lib.hid (show atL b 8 8 = x.o6 by rw [hx]; rfl)
  rw [E1.out] at a1
  rw [E2.out] at a2
  rw [E7.out] at a3
  rw [E8.out] at a4
  have HG1 := Lib.hid (RGreat_c x HW)
  have HG3 := Lib.hid (REnd_c x HW)
  clear hba hA hB hC hP z0 z1 z2 hx HW
  generalize hX1 : nsB (tlP1 x) = X1 at *
  generalize hX3 : nsB (tlP3 x) = X3 at *
  have HX1 : Hid (tlB1 (rdT a b) = X1) := by rw [← HX.out]; exact hX1
  have HX3 : Hid (tlB3 (rdT a b) = X3) := by rw [← HX.out]; exact hX3
  clear hX1 hX3
  obtain ⟨di, st, he, co, y, o, d6, ds, o6⟩ := x
  dsimp only at a1 a2 a3 a4 E1 E2 E3 E4 E5 E6 E7 E8 E9
  have u1 : IntKind.u32.wrap (di : Int) = (di : Int) := by show (di : Int) % 4294967296 = _; omega
  have u2 : IntKind.u32.wrap (st : Int) = (st : Int) := by show (st : Int) % 4294967296 = _; omega
  have u7 : IntKind.u32.wrap (d6 : Int) = (d6 : Int) := by show (d6 : Int) % 4294967296 = _; omega
  have u8 : IntKind.u32.wrap (ds : Int) = (ds : Int) := by show (ds : Int) % 4294967296 = _; omega
  have hb3 := fun (W : World) => (Below.refl W.heap.size W).alloc (Nat.le_refl _) (.cells (tlC ⟨di, st, he, co, y, o, d6, ds, o6⟩) 27)
  have HL3 := Lib.hid (HL0.out.trans ((hb3 _).mono HL0.out.size))
  have HK3 := Lib.hid (HK0.out.below HK0.out.lt (hb3 _))
  have HT3 := Lib.hid (Blk.new (w.alloc (.cells z9 27)) 27 (tlC ⟨di, st, he, co, y, o, d6, ds, o6⟩))
  have HS3 : Hid (w.heap.size < (w.alloc (.cells z9 27)).heap.size) := HK0.out.lt
  have HA3 := Lib.hid (HA.out.below (hb3 _))
  have HC3 := Lib.hid (HC.out.below (hb3 _))
  have HE0 : Hid ((w.alloc (.cells z9 27)).heap.size = w.heap.size + 1) := by unfold Hid; simp
  clear hb3
  unfold z9 tlV tlC at *
  dsimp only at *
  go_enter Try.func17, Try.ntmps17
  go_wp2_with fail
  refine H1.out.mono ?_
  rintro e _ ⟨rfl, rfl⟩
  go_wp2_with fail
  refine H2.out.mono ?_
  rintro e _ ⟨rfl, rfl⟩
  go_wp2_with fail
  refine H3.out.mono ?_
  rintro e _ ⟨rfl, rfl⟩
  generalize hw0 : w.alloc (.cells #[.int .u32 0, .int .u32 0, .int .u64 0, .int .u64 0, .int .u64 0, .int .u64 0, .int .u32 0, .int .u32 0, .int .u64 0] 27) = w0 at *
  have HW0 := Lib.hid hw0
  clear hw0 H1 H2 H3
  go_wp2_with fail
  refine (RAtT_c A n c a _ HA.out 16 4 _ _ rfl rfl (by omega) (by omega) hn).mono ?_
  rintro e _ ⟨rfl, rfl⟩
  rw [E1.out]
  go_wp2_with fail
  refine (RAtT_c A n c a _ HA.out 20 4 _ _ rfl rfl (by omega) (by omega) hn).mono ?_
  rintro e _ ⟨rfl, rfl⟩
  rw [E2.out]
  go_wp2_with fail
  refine (RAtT_c A n c a _ HA.out 24 8 _ _ rfl rfl (by omega) (by omega) hn).mono ?_
  rintro e _ ⟨rfl, rfl⟩
  rw [E3.out]
  go_wp2_with fail
  refine (RAtT_c A n c a _ HA.out 32 8 _ _ rfl rfl (by omega) (by omega) hn).mono ?_
  rintro e _ ⟨rfl, rfl⟩
  rw [E4.out]
  go_wp2_with fail
  refine (RAtT_c A n c a _ HA.out 40 8 _ _ rfl rfl (by omega) (by omega) hn).mono ?_
  rintro e _ ⟨rfl, rfl⟩
  rw [E5.out]
  go_wp2_with fail
  refine (RAtT_c A n c a _ HA.out 48 8 _ _ rfl rfl (by omega) (by omega) hn).mono ?_
  rintro e _ ⟨rfl, rfl⟩
  rw [E6.out]
  go_wp2_with fail
  refine (RAtT_c B m d b _ (HB.out.below ((Below.refl _ _).alloc (Nat.le_refl _) _)) 4 4 _ _ rfl rfl (by omega) (by omega) hm).mono ?_
  rintro e _ ⟨rfl, rfl⟩
  rw [E7.out]
  go_wp2_with fail
  refine (RAtT_c B m d b _ (HB.out.below ((Below.refl _ _).alloc (Nat.le_refl _) _)) 8 8 _ _ rfl rfl (by omega) (by omega) hm).mono ?_
  rintro e _ ⟨rfl, rfl⟩
  rw [E9.out]
  go_wp2_with fail
  refine (RAtT_c B m d b _ (HB.out.below ((Below.refl _ _).alloc (Nat.le_refl _) _)) 16 4 _ _ rfl rfl (by omega) (by omega) hm).mono ?_
  rintro e _ ⟨rfl, rfl⟩
  rw [E8.out]
  go_wp2_with fail
  generalize w0.alloc (.cells #[.int .u32 di, .int .u32 st, .int .u64 he, .int .u64 co, .int .u64 y, .int .u64 o, .int .u32 d6, .int .u32 ds, .int .u64 o6] 27) = W3 at *
  generalize w0.heap.size = g3 at *
  clear HA HB HC HK0 HL0
  refine (HG1.out _).mono ?_
  rintro e W4 ⟨A4, c4, rfl, hown4, hb4⟩
  have HO4 := Lib.hid hown4
  have HL4 := Lib.hid (HL3.out.trans (hb4.mono HL3.out.size))
  have HK4 := Lib.hid (HK3.out.below HK3.out.lt hb4)
  have HT4 := Lib.hid (HT3.out.below HT3.out.lt hb4)
  have HA4 := Lib.hid (HA3.out.below hb4)
  have HC4 := Lib.hid (HC3.out.below hb4)
  clear hown4 hb4 HL3 HK3 HT3 HA3 HC3
  go_wp2_with fail
  refine (SameA_c _ _ _ _ _ _ _ _ _ (Row.of_own HO4.out) HA4.out.row).mono ?_
  rintro e _ ⟨rfl, q4, rfl⟩
  have HL5 := Lib.hid (below_drewN HL4.out q4)
  have HK5 : Hid (Blk (W4.drewN q4) w.heap.size 27 _) := HK4.out
  have HT5 : Hid (Blk (W4.drewN q4) g3 27 _) := HT4.out
  have HC5 := Lib.hid (HC4.out.drewN q4)
  clear HL4 HK4 HT4 HA4 HC4
  generalize W4.drewN q4 = W5 at *
  by_cases he1 : X1 = a
  · rw [decide_eq_true he1]
    have HE1 := Lib.hid he1
    clear he1 HO4
    obtain ⟨e0, e1, e2, e3, e4, e5, e6, e7, e8⟩ := elv9 HT5.out
    go_wp2_with fail
    refine (HG3.out _).mono ?_
    rintro e W6 ⟨A6, c6, rfl, hown6, hb6⟩
    have HO6 := Lib.hid hown6
    have HL6 := Lib.hid (HL5.out.trans (hb6.mono HL5.out.size))
    have HK6 := Lib.hid (HK5.out.below HK5.out.lt hb6)
    have HT6 := Lib.hid (HT5.out.below HT5.out.lt hb6)
    have HC6 := Lib.hid (HC5.out.below hb6)
    clear hown6 hb6 HL5 HK5 HT5 HC5 e0 e1 e2 e3 e4 e5 e6 e7 e8
    go_wp2_with fail
    refine (SameA_c _ _ _ _ _ _ _ _ _ (Row.of_own HO6.out) HC6.out.row).mono ?_
    rintro e _ ⟨rfl, q7, rfl⟩
    have HL7 := Lib.hid (below_drewN HL6.out q7)
    have HK7 : Hid (Blk (W6.drewN q7) w.heap.size 27 _) := HK6.out
    have HT7 : Hid (Blk (W6.drewN q7) g3 27 _) := HT6.out
    clear HL6 HK6 HT6 HC6
    generalize W6.drewN q7 = W7 at *
    by_cases he3 : X3 = z
    · rw [decide_eq_true he3]
      have hv : P = (⟨di, st, he, co, y, o, d6, ds, o6⟩, 0) := by
        rw [HP.out, prT_5 Z0.out Z1.out Z2.out (HX1.out.trans HE1.out) (HX3.out.trans he3), ← HX.out]
      have HV := Lib.hid hv
      clear he3 HO6 hv
      have q0 := ld_tlR HT7.out rfl
      have t2 := st_tlR HK7.out rfl #[.int .u32 di, .int .u32 st, .int .u64 he, .int .u64 co, .int .u64 y, .int .u64 o, .int .u32 d6, .int .u32 ds, .int .u64 o6] rfl (by simp [Value.oneCell'])
      have t3 := ld_tlR (HK7.out.setRow #[.int .u32 di, .int .u32 st, .int .u64 he, .int .u64 co, .int .u64 y, .int .u64 o, .int .u32 d6, .int .u32 ds, .int .u64 o6]) rfl
      have HB9 := Lib.hid (below_setRowS HL7.out (Nat.le_refl _) #[.int .u32 di, .int .u32 st, .int .u64 he, .int .u64 co, .int .u64 y, .int .u64 o, .int .u32 d6, .int .u32 ds, .int .u64 o6])
      go_wp2_with (first
        | (with_reducible refine wpList_load_var _ _ (by with_unfolding_all rfl) q0 ?_)
        | (with_reducible refine wpList_store_var _ _ _ (by with_unfolding_all rfl) (by with_unfolding_all rfl) t2 ?_))
      refine bodyPost_ret (v := .tuple #[.agg #[.int .u32 di, .int .u32 st, .int .u64 he, .int .u64 co, .int .u64 y, .int .u64 o, .int .u32 d6, .int .u32 ds, .int .u64 o6], .int .i64 0]) ?_ rfl ⟨by rw [HV.out], HB9.out⟩
      rw [results_cell_tmp rfl]
      simp [asAddr, Result.andThen, t3]
    · rw [decide_eq_false he3]
      have hv : P = (tl0, 21) := by
        rw [HP.out, prT_4 Z0.out Z1.out Z2.out (.inr (by rw [HX3.out]; exact he3))]
      have HV := Lib.hid hv
      clear he3 HO6 hv
      have t2 := st_tlR HK7.out rfl z9 rfl z9_one
      have t3 := ld_tlR (HK7.out.setRow z9) rfl
      have HB9 := Lib.hid (below_setRowS HL7.out (Nat.le_refl _) z9)
      unfold z9 at *
      go_wp2_with (with_reducible refine wpList_store_var _ _ _ (by with_unfolding_all rfl) (by with_unfolding_all rfl) t2 ?_)
      refine bodyPost_ret (v := .tuple #[.agg z9, .int .i64 21]) ?_ rfl ⟨by rw [HV.out]; rfl, HB9.out⟩
      rw [results_cell_tmp rfl]
      unfold z9
      simp [asAddr, Result.andThen, t3]
  · rw [decide_eq_false he1]
    have hv : P = (tl0, 21) := by
      rw [HP.out, prT_4 Z0.out Z1.out Z2.out (.inl (by rw [HX1.out]; exact he1))]
    have HV := Lib.hid hv
    clear he1 HO4 hv
    have t2 := st_tlR HK5.out rfl z9 rfl z9_one
    have t3 := ld_tlR (HK5.out.setRow z9) rfl
    have HB9 := Lib.hid (below_setRowS HL5.out (Nat.le_refl _) z9)
    unfold z9 at *
    go_wp2_with (with_reducible refine wpList_store_var _ _ _ (by with_unfolding_all rfl) (by with_unfolding_all rfl) t2 ?_)
    refine bodyPost_ret (v := .tuple #[.agg z9, .int .i64 21]) ?_ rfl ⟨by rw [HV.out]; rfl, HB9.out⟩
    rw [results_cell_tmp rfl]
    unfold z9
    simp [asAddr, Result.andThen, t3]
theorem RParseT_c (A : Option Addr) (n c : Nat) (a : List F) (B : Option Addr) (m d : Nat) (b : List F) (C : Option Addr) (k f : Nat) (z : List F) (w : World) (hA : RowIn w A n c a) (hB : RowIn w B m d b) (hC : RowIn w C k f z) (hn : n ≤ 1000000) (hm : m ≤ 1000000) (hk : k ≤ 1000000) :
    Calls Try.prog 17 #[.slice A n c, .slice B m d, .slice C k f] w fun e w' => e = .returned (.tuple #[tlV (prT a b z).1, .int .i64 (prT a b z).2]) ∧ Below w.heap.size w w' := by
  by_cases h : pE a 101075792 56 = 0 ∧ pE b 117853008 20 = 0 ∧ pE z 101010256 22 = 0
  · exact RParseT_yes A n c a B m d b C k f z w hA hB hC hn hm hk h.1 h.2.1 h.2.2
  · refine RParseT_no A n c a B m d b C k f z w hA hB hC hn hm hk ?_
    by_cases h1 : pE a 101075792 56 = 0
    · by_cases h2 : pE b 117853008 20 = 0
      · exact .inr (.inr fun h3 => h ⟨h1, h2, h3⟩)
      · exact .inr (.inl h2)
    · exact .inl h1
end Go.Proofs.Ythpgeehfmblbhaa
