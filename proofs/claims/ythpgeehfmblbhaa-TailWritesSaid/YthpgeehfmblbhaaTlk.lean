/-
  TAILS: Parse. No conditions (but for how many bytes there are).
-/
import Derived.Test.YthpgeehfmblbhaaTli
import Derived.Test.YthpgeehfmblbhaaTlj
import Derived.Test.YthpgeehfmblbhaaTlg
namespace Go.Proofs.Ythpgeehfmblbhaa
open Go.RowKit
set_option maxRecDepth 100000
set_option linter.unusedVariables false

/-- the error of the first k of three records -/
def pE3 (a b c : List F) : Nat → Int
  | 0 => pE a 101075792 56
  | 1 => pE b 117853008 20
  | _ => pE c 101010256 22
theorem prT_1 {a b c : List F} (h : pE a 101075792 56 ≠ 0) : prT a b c = (tl0, pE a 101075792 56) := if_pos h
theorem prT_2 {a b c : List F} (h : pE a 101075792 56 = 0) (h2 : pE b 117853008 20 ≠ 0) : prT a b c = (tl0, pE b 117853008 20) := by
  unfold prT
  rw [if_neg (by omega), if_pos h2]
theorem prT_3 {a b c : List F} (h : pE a 101075792 56 = 0) (h2 : pE b 117853008 20 = 0) (h3 : pE c 101010256 22 ≠ 0) : prT a b c = (tl0, pE c 101010256 22) := by
  unfold prT
  rw [if_neg (by omega), if_neg (by omega), if_pos h3]
theorem prT_4 {a b c : List F} (h : pE a 101075792 56 = 0) (h2 : pE b 117853008 20 = 0) (h3 : pE c 101010256 22 = 0) (h4 : tlB1 (rdT a b) ≠ a ∨ tlB3 (rdT a b) ≠ c) : prT a b c = (tl0, 21) := by
  unfold prT
  rw [if_neg (by omega), if_neg (by omega), if_neg (by omega), if_pos h4]
theorem prT_5 {a b c : List F} (h : pE a 101075792 56 = 0) (h2 : pE b 117853008 20 = 0) (h3 : pE c 101010256 22 = 0) (h4 : tlB1 (rdT a b) = a) (h5 : tlB3 (rdT a b) = c) : prT a b c = (rdT a b, 0) := by
  unfold prT
  rw [if_neg (by omega), if_neg (by omega), if_neg (by omega), if_neg (by
    rintro (e | e)
    · exact e h4
    · exact e h5)]
theorem rdT_ex (a b : List F) : ∃ x, x = rdT a b ∧ TlW x := ⟨_, rfl, rdT_wf a b⟩
theorem pE_ex3 {a b z : List F} {r : Nat} (hr : r < 3) (h0 : ∀ j, j < r → pE3 a b z j = 0) (h : pE3 a b z r ≠ 0) : prT a b z = (tl0, pE3 a b z r) := by
  rcases (show r = 0 ∨ r = 1 ∨ r = 2 by omega) with rfl | rfl | rfl
  · exact prT_1 h
  · exact prT_2 (h0 0 (by omega)) h
  · exact prT_3 (h0 0 (by omega)) (h0 1 (by omega)) h
/-- a tail's cells -/
theorem elv9 {w : World} {g : Nat} {t : TypeId} {a0 a1 a2 a3 a4 a5 a6 a7 a8 : Value} (h : Blk w g t #[a0, a1, a2, a3, a4, a5, a6, a7, a8]) :
    w.cell? ⟨g, 0, none⟩ = some a0 ∧ w.cell? ⟨g, 1, none⟩ = some a1 ∧ w.cell? ⟨g, 2, none⟩ = some a2 ∧ w.cell? ⟨g, 3, none⟩ = some a3 ∧ w.cell? ⟨g, 4, none⟩ = some a4 ∧ w.cell? ⟨g, 5, none⟩ = some a5 ∧ w.cell? ⟨g, 6, none⟩ = some a6 ∧ w.cell? ⟨g, 7, none⟩ = some a7 ∧ w.cell? ⟨g, 8, none⟩ = some a8 :=
  ⟨by simpa using h.cell 0, by simpa using h.cell 1, by simpa using h.cell 2, by simpa using h.cell 3, by simpa using h.cell 4, by simpa using h.cell 5, by simpa using h.cell 6, by simpa using h.cell 7, by simpa using h.cell 8⟩
def z9 : Array Value := #[.int .u32 0, .int .u32 0, .int .u64 0, .int .u64 0, .int .u64 0, .int .u64 0, .int .u32 0, .int .u32 0, .int .u64 0]
theorem tl0_z : tlV tl0 = .agg z9 := rfl
theorem z9_one : z9.all (·.oneCell') = true := by simp [z9, Value.oneCell']
/-- one of three -/
def th3v {α : Type} (a b c : α) : Nat → α := fun r => if r = 0 then a else if r = 1 then b else c
set_option maxHeartbeats 4000000 in
theorem ParseT_c (A : Option Addr) (n c : Nat) (a : List F) (B : Option Addr) (m d : Nat) (b : List F) (C : Option Addr) (k f : Nat) (z : List F) (w : World) (hA : RowIn w A n c a) (hB : RowIn w B m d b) (hC : RowIn w C k f z) (hn : n ≤ 1000000) (hm : m ≤ 1000000) (hk : k ≤ 1000000) :
    Calls Try.prog 16 #[.slice A n c, .slice B m d, .slice C k f] w fun e w' => e = .returned (.tuple #[tlV (prT a b z).1, .int .i64 (prT a b z).2]) ∧ Below w.heap.size w w' := by
  obtain ⟨P, hP⟩ : ∃ P, P = prT a b z := ⟨_, rfl⟩
  rw [← hP]
  have HP := Lib.hid hP
  have HA := Lib.hid hA
  have HB := Lib.hid hB
  have HC := Lib.hid hC
  have lA : a.length = n := hA.row.len
  have lB : b.length = m := hB.row.len
  have lC : z.length = k := hC.row.len
  have LA := Lib.hid lA
  have LB := Lib.hid lB
  have LC := Lib.hid lC
  clear hA hB hC hP lA lB lC
  have hba := (Below.refl w.heap.size w).alloc (Nat.le_refl _) (.cells (tlC tl0) 25)
  have HK0 := Lib.hid (Blk.new w 25 (tlC tl0))
  have HL0 := Lib.hid hba
  have HS0 : Hid (w.heap.size < (w.alloc (.cells (tlC tl0) 25)).heap.size) := HK0.out.lt
  clear hba
  go_enter Try.func16, Try.ntmps16
  go_wp2_with fail
  have hKr := Blk.new (w.alloc (.cells (tlC tl0) 25)) 52 #[.slice A n c, .int .u64 101075792, .int .i64 56, .slice B m d, .int .u64 117853008, .int .i64 20, .slice C k f, .int .u64 101010256, .int .i64 22]
  have hba := (Below.refl (w.alloc (.cells (tlC tl0) 25)).heap.size (w.alloc (.cells (tlC tl0) 25))).alloc (Nat.le_refl _) (.cells #[.slice A n c, .int .u64 101075792, .int .i64 56, .slice B m d, .int .u64 117853008, .int .i64 20, .slice C k f, .int .u64 101010256, .int .i64 22] 52)
  have HKR := Lib.hid hKr
  have HK1 := Lib.hid (HK0.out.below HK0.out.lt hba)
  have HL1 := Lib.hid (HL0.out.trans (hba.mono HL0.out.size))
  have HE0 : Hid ((w.alloc (.cells (tlC tl0) 25)).heap.size = w.heap.size + 1) := by unfold Hid; simp
  rw [← HE0.out]
  clear hKr hba HK0 HL0 HE0
  unfold tl0 tlC at *
  dsimp only at *
  generalize (w.alloc (.cells #[.int .u32 ((0 : Nat) : Int), .int .u32 ((0 : Nat) : Int), .int .u64 ((0 : Nat) : Int), .int .u64 ((0 : Nat) : Int), .int .u64 ((0 : Nat) : Int), .int .u64 ((0 : Nat) : Int), .int .u32 ((0 : Nat) : Int), .int .u32 ((0 : Nat) : Int), .int .u64 ((0 : Nat) : Int)] 25)).alloc (.cells #[.slice A n c, .int .u64 101075792, .int .i64 56, .slice B m d, .int .u64 117853008, .int .i64 20, .slice C k f, .int .u64 101010256, .int .i64 22] 52) = W1 at *
  generalize (w.alloc (.cells #[.int .u32 ((0 : Nat) : Int), .int .u32 ((0 : Nat) : Int), .int .u64 ((0 : Nat) : Int), .int .u64 ((0 : Nat) : Int), .int .u64 ((0 : Nat) : Int), .int .u64 ((0 : Nat) : Int), .int .u32 ((0 : Nat) : Int), .int .u32 ((0 : Nat) : Int), .int .u64 ((0 : Nat) : Int)] 25)).heap.size = g1 at *
  go_loopw [20] (fun iv wr => ∃ r : Nat, r ≤ 3 ∧ iv = .int .i64 r ∧ Hid (∀ j, j < r → pE3 a b z j = 0) ∧ Hid (Below W1.heap.size W1 wr)) (fun iv _ => 3 - (intOf iv).toNat)
  case atStart => exact ⟨0, by omega, rfl, fun j hj => absurd hj (by omega), Below.refl _ _⟩
  case round =>
    obtain ⟨r, hr, rfl, hZ, hW⟩ := hrel
    have HKr := Lib.hid (HKR.out.below HKR.out.lt hW.out)
    have HKw := Lib.hid (HK1.out.below HK1.out.lt hW.out)
    have HLw := Lib.hid (HL1.out.trans (hW.out.mono HL1.out.size))
    by_cases h3 : r < 3
    · have h3i : (r : Int) < 3 := by omega
      obtain ⟨X, nx, cx, lx, sg, sz, hrow, hnx, hsz, hpe, q0, q1, q2⟩ : ∃ (X : Option Addr) (nx cx : Nat) (lx : List F) (sg sz : Nat), Hid (RowIn w X nx cx lx) ∧ nx ≤ 1000000 ∧ sz ≤ 1000 ∧ Hid (pE lx sg sz = pE3 a b z r) ∧ wr.cell? ⟨g1, r * 3, none⟩ = some (.slice X nx cx) ∧ wr.cell? ⟨g1, r * 3 + 1, none⟩ = some (.int .u64 sg) ∧ wr.cell? ⟨g1, r * 3 + 2, none⟩ = some (.int .i64 sz) := by
        rcases (show r = 0 ∨ r = 1 ∨ r = 2 by omega) with rfl | rfl | rfl
        · exact ⟨A, n, c, a, 101075792, 56, HA, hn, by omega, rfl, HKr.out.cell 0, HKr.out.cell 1, HKr.out.cell 2⟩
        · exact ⟨B, m, d, b, 117853008, 20, HB, hm, by omega, rfl, HKr.out.cell 3, HKr.out.cell 4, HKr.out.cell 5⟩
        · exact ⟨C, k, f, z, 101010256, 22, HC, hk, by omega, rfl, HKr.out.cell 6, HKr.out.cell 7, HKr.out.cell 8⟩
      have HPE := Lib.hid hpe
      have HRO := Lib.hid hrow.out
      clear hrow hpe
      go_wp2_with fail
      have hb1 := (Below.refl wr.heap.size wr).alloc (Nat.le_refl _) (.cells #[.slice X nx cx, .int .u64 sg, .int .i64 sz] 52)
      have HBq := Lib.hid hb1
      have HBp := Lib.hid (hW.out.trans (hb1.mono hW.out.size))
      have HLp := Lib.hid (HLw.out.trans (hb1.mono HLw.out.size))
      clear hb1
      refine (check_c X nx cx lx sg sz _ (HRO.out.below HLp.out) hnx hsz).mono ?_
      rintro e W2 ⟨rfl, hb2⟩
      have HB2 := Lib.hid (HBp.out.trans (hb2.mono HBp.out.size))
      have HKz := Lib.hid ((HKw.out.below HKw.out.lt HBq.out).below (HKw.out.below HKw.out.lt HBq.out).lt hb2)
      have HL2 := Lib.hid (HLp.out.trans (hb2.mono HLp.out.size))
      clear hb2 HBp HLp q0 q1 q2
      by_cases hpz : pE lx sg sz = 0
      · have bz : (pE lx sg sz != 0) = false := by rw [hpz]; rfl
        have hZ2 : Hid (∀ j, j < r + 1 → pE3 a b z j = 0) := fun j hj => by
          by_cases e : j = r
          · subst e
            exact HPE.out.symm.trans hpz
          · exact hZ.out j (by omega)
        generalize pE lx sg sz = ez at *
        clear hpz
        go_wp2
        go_roundw
        case rel => exact ⟨r + 1, by omega, by go_num, hZ2, HB2⟩
        case measure => simp [intOf]; omega
      · have bz : (pE lx sg sz != 0) = true := by rw [bne_iff_ne]; exact hpz
        have hv : P = (tl0, pE lx sg sz) := by
          rw [HP.out, HPE.out]
          exact pE_ex3 h3 hZ.out (by rw [← HPE.out]; exact hpz)
        generalize pE lx sg sz = ez at *
        have hz := HKz.out
        have t2 := st_tl hz rfl z9 rfl z9_one
        have t3 := ld_tl (hz.setRow z9) rfl
        have HB9 := Lib.hid (below_setRowS HL2.out (Nat.le_refl _) z9)
        clear hz
        unfold z9 at *
        go_wp2_with (with_reducible refine wpList_store_var _ _ _ (by with_unfolding_all rfl) (by with_unfolding_all rfl) t2 ?_)
        refine bodyPost_ret (v := .tuple #[.agg z9, .int .i64 ez]) ?_ rfl ⟨by rw [hv, tl0_z], HB9.out⟩
        rw [results_cell_tmp rfl]
        unfold z9
        simp [asAddr, Result.andThen, t3]
    · have h3i : ¬ (r : Int) < 3 := by omega
      have z0 : pE a 101075792 56 = 0 := hZ.out 0 (by omega)
      have z1 : pE b 117853008 20 = 0 := hZ.out 1 (by omega)
      have z2 : pE z 101010256 22 = 0 := hZ.out 2 (by omega)
      have n0 := Lib.hid (pE_of z0).1
      have n1 := Lib.hid (pE_of z1).1
      have Z0 := Lib.hid z0
      have Z1 := Lib.hid z1
      have Z2 := Lib.hid z2
      clear z0 z1 z2
      go_wp2_with fail
      refine (readT_c A n c a B m d b _ (HA.out.below HLw.out) (by have := LA.out; have := n0.out; omega) (HB.out.below HLw.out) (by have := LB.out; have := n1.out; omega)).mono ?_
      rintro e W2 ⟨rfl, hb2⟩
      obtain ⟨x, hx, hxW⟩ := rdT_ex a b
      rw [← hx]
      have HX := Lib.hid hx
      have HG1 := Lib.hid (Great_c x hxW)
      have HG3 := Lib.hid (End_c x hxW)
      have hb3 := (Below.refl W2.heap.size W2).alloc (Nat.le_refl _) (.cells (tlC x) 25)
      have HL3 := Lib.hid ((HLw.out.trans (hb2.mono HLw.out.size)).trans (hb3.mono (HLw.out.trans (hb2.mono HLw.out.size)).size))
      have HK3 := Lib.hid ((HKw.out.below HKw.out.lt hb2).below (HKw.out.below HKw.out.lt hb2).lt hb3)
      have HT3 := Lib.hid (Blk.new W2 25 (tlC x))
      have HS3 : Hid (w.heap.size < W2.heap.size) := (HKw.out.below HKw.out.lt hb2).lt
      clear hx hxW hb2 hb3
      generalize hX1 : nsB (tlP1 x) = X1 at *
      generalize hX3 : nsB (tlP3 x) = X3 at *
      have HX1 : Hid (tlB1 (rdT a b) = X1) := by rw [← HX.out]; exact hX1
      have HX3 : Hid (tlB3 (rdT a b) = X3) := by rw [← HX.out]; exact hX3
      clear hX1 hX3
      obtain ⟨di, st, he, co, y, o, d6, ds, o6⟩ := x
      unfold tlV tlC at *
      dsimp only at *
      go_wp2_with fail
      generalize W2.alloc (.cells #[.int .u32 di, .int .u32 st, .int .u64 he, .int .u64 co, .int .u64 y, .int .u64 o, .int .u32 d6, .int .u32 ds, .int .u64 o6] 25) = W3 at *
      generalize W2.heap.size = g3 at *
      refine (HG1.out _).mono ?_
      rintro e W4 ⟨A4, c4, rfl, hown4, hb4⟩
      have HO4 := Lib.hid hown4
      have HL4 := Lib.hid (HL3.out.trans (hb4.mono HL3.out.size))
      have HK4 := Lib.hid (HK3.out.below HK3.out.lt hb4)
      have HT4 := Lib.hid (HT3.out.below HT3.out.lt hb4)
      clear hown4 hb4 HL3 HK3 HT3
      go_wp2_with fail
      refine (EqualL_c _ _ _ _ _ _ _ _ _ (Row.of_own HO4.out) (HA.out.row.below HL4.out)).mono ?_
      rintro e _ ⟨rfl, rfl⟩
      by_cases he1 : X1 = a
      · rw [decide_eq_true he1]
        have HE1 := Lib.hid he1
        clear he1 HO4
        obtain ⟨e0, e1, e2, e3, e4, e5, e6, e7, e8⟩ := elv9 HT4.out
        go_wp2_with fail
        refine (HG3.out _).mono ?_
        rintro e W5 ⟨A5, c5, rfl, hown5, hb5⟩
        have HO5 := Lib.hid hown5
        have HL5 := Lib.hid (HL4.out.trans (hb5.mono HL4.out.size))
        have HK5 := Lib.hid (HK4.out.below HK4.out.lt hb5)
        have HT5 := Lib.hid (HT4.out.below HT4.out.lt hb5)
        clear hown5 hb5 HL4 HK4 HT4 e0 e1 e2 e3 e4 e5 e6 e7 e8
        go_wp2_with fail
        refine (EqualL_c _ _ _ _ _ _ _ _ _ (Row.of_own HO5.out) (HC.out.row.below HL5.out)).mono ?_
        rintro e _ ⟨rfl, rfl⟩
        by_cases he3 : X3 = z
        · rw [decide_eq_true he3]
          have hv : P = (⟨di, st, he, co, y, o, d6, ds, o6⟩, 0) := by
            rw [HP.out, prT_5 Z0.out Z1.out Z2.out (HX1.out.trans HE1.out) (HX3.out.trans he3), ← HX.out]
          have HV := Lib.hid hv
          clear he3 HO5 hv
          have q0 := ld_tl HT5.out rfl
          have t2 := st_tl HK5.out rfl #[.int .u32 di, .int .u32 st, .int .u64 he, .int .u64 co, .int .u64 y, .int .u64 o, .int .u32 d6, .int .u32 ds, .int .u64 o6] rfl (by simp [Value.oneCell'])
          have t3 := ld_tl (HK5.out.setRow #[.int .u32 di, .int .u32 st, .int .u64 he, .int .u64 co, .int .u64 y, .int .u64 o, .int .u32 d6, .int .u32 ds, .int .u64 o6]) rfl
          have HB9 := Lib.hid (below_setRowS HL5.out (Nat.le_refl _) #[.int .u32 di, .int .u32 st, .int .u64 he, .int .u64 co, .int .u64 y, .int .u64 o, .int .u32 d6, .int .u32 ds, .int .u64 o6])
          go_wp2_with (first
            | (with_reducible refine wpList_load_var _ _ (by with_unfolding_all rfl) q0 ?_)
            | (with_reducible refine wpList_store_var _ _ _ (by with_unfolding_all rfl) (by with_unfolding_all rfl) t2 ?_))
          refine bodyPost_ret (v := .tuple #[.agg #[.int .u32 di, .int .u32 st, .int .u64 he, .int .u64 co, .int .u64 y, .int .u64 o, .int .u32 d6, .int .u32 ds, .int .u64 o6], .int .i64 0]) ?_ rfl ⟨by rw [HV.out]; rfl, HB9.out⟩
          rw [results_cell_tmp rfl]
          simp [asAddr, Result.andThen, t3]
        · rw [decide_eq_false he3]
          have hv : P = (tl0, 21) := by
            rw [HP.out, prT_4 Z0.out Z1.out Z2.out (.inr (by rw [HX3.out]; exact he3))]
          have HV := Lib.hid hv
          clear he3 HO5 hv
          have t2 := st_tl HK5.out rfl z9 rfl z9_one
          have t3 := ld_tl (HK5.out.setRow z9) rfl
          have HB9 := Lib.hid (below_setRowS HL5.out (Nat.le_refl _) z9)
          unfold z9 at *
          go_wp2_with (with_reducible refine wpList_store_var _ _ _ (by with_unfolding_all rfl) (by with_unfolding_all rfl) t2 ?_)
          refine bodyPost_ret (v := .tuple #[.agg z9, .int .i64 21]) ?_ rfl ⟨by rw [HV.out, tl0_z], HB9.out⟩
          rw [results_cell_tmp rfl]
          unfold z9
          simp [asAddr, Result.andThen, t3]
      · rw [decide_eq_false he1]
        have hv : P = (tl0, 21) := by
          rw [HP.out, prT_4 Z0.out Z1.out Z2.out (.inl (by rw [HX1.out]; exact he1))]
        have HV := Lib.hid hv
        clear he1 HO4 hv
        have t2 := st_tl HK4.out rfl z9 rfl z9_one
        have t3 := ld_tl (HK4.out.setRow z9) rfl
        have HB9 := Lib.hid (below_setRowS HL4.out (Nat.le_refl _) z9)
        unfold z9 at *
        go_wp2_with (with_reducible refine wpList_store_var _ _ _ (by with_unfolding_all rfl) (by with_unfolding_all rfl) t2 ?_)
        refine bodyPost_ret (v := .tuple #[.agg z9, .int .i64 21]) ?_ rfl ⟨by rw [HV.out, tl0_z], HB9.out⟩
        rw [results_cell_tmp rfl]
        unfold z9
        simp [asAddr, Result.andThen, t3]
end Go.Proofs.Ythpgeehfmblbhaa
