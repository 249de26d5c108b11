/-
  LAW 19: CentralBack (WRITTEN by wip/gen19z.py). No conditions (but that the table of months lies as the program's text lays it).
-/
import Derived.Test.YtacllgglpjdobaaDoorLaw19
namespace Go.Proofs.YtacllgglpjdobaaDoor
open Go.RowKit
set_option maxRecDepth 100000
set_option linter.unusedVariables false
set_option linter.unusedSimpArgs false

/-- what Parse answers of bytes: a header that writes them, or nothing -/
theorem prC_two (l : List F) : (∃ (H : Rc) (n : Nat), prC l = (H, n, 0) ∧ RcW H ∧ chkH H.h = 0 ∧ n ≤ l.length ∧ crX H = l.take n) ∨ (∃ e : Int, e ≠ 0 ∧ prC l = (rc0, 0, e)) := by
  rcases prC_back l with ⟨h1, h2, h3, h4, h5⟩ | ⟨h1, h2, h3⟩
  · exact .inl ⟨(prC l).1, (prC l).2.1, Prod.ext rfl (Prod.ext rfl h1), h2, h3, h4, h5⟩
  · exact .inr ⟨(prC l).2.2, h1, Prod.ext h2 (Prod.ext h3 rfl)⟩

set_option maxHeartbeats 8000000 in
theorem back_big (w : World) (ht : TabM w) (h : Rc) (hw : RcW h) (hm : h.h.nm.length ≤ maxLen) (A1 : Option Addr) (n1 c1 : Nat) (l1 : List F) (h1 : RowIn w A1 n1 c1 l1) (A2 : Option Addr) (n2 c2 : Nat) (l2 : List F) (h2 : RowIn w A2 n2 c2 l2) (cut : Int) (hcut : (Lit.int .i64 cut).wf = true) (hb : ¬ (h.h.nm.length ≤ 300 ∧ n1 ≤ 400 ∧ n2 ≤ 400)) :
    Calls Tryd.prog 5 #[rcV h, .slice A1 n1 c1, .slice A2 n2 c2, .int .i64 cut] w fun e w' => e = .returned (.bool true) ∧ Below w.heap.size w w' := by
  obtain ⟨i0, hi, hz0, hz1, hz2⟩ := info_parts info_u8
  have HT := Lib.hid ht
  have HK := Lib.hid (Blk.new w 29 (rcC h))
  have HBL := Lib.hid ((Below.refl w.heap.size w).alloc (Nat.le_refl _) (.cells (rcC h) 29))
  have HAL := Lib.hid alive19_c
  have hsS := S_size h.h.nm
  have H1 := Lib.hid h1
  have H2 := Lib.hid h2
  obtain ⟨z0, z1, z2, hy0, hy1, hy2, hzz⟩ : ∃ z0 z1 z2 : Bool, decide ((300 : Int) < ((S h.h.nm).size : Int)) = z0 ∧ decide ((400 : Int) < (n1 : Int)) = z1 ∧ decide ((400 : Int) < (n2 : Int)) = z2 ∧ (z0 || (z1 || z2)) = true := ⟨_, _, _, rfl, rfl, rfl, by
    rw [Bool.or_eq_true, Bool.or_eq_true, decide_eq_true_iff, decide_eq_true_iff, decide_eq_true_iff]
    omega⟩
  clear hw ht hsS hb h1 h2 hm
  obtain ⟨⟨mm, ⟨y, mo, dd, hh, mi, s⟩, sum, p, z, nm⟩, k, o⟩ := h
  unfold rcV rcC at *
  dsimp only at *
  cases z0 <;> cases z1 <;> cases z2 <;> first | (exact absurd hzz (by decide)) | skip
  all_goals
    go_enter Tryd.func5, Tryd.ntmps5
    go_wp2_with fail
    refine (HAL.out _ (HT.out.alloc _)).mono ?_
    rintro e W1 ⟨rfl, hb1⟩
    have K1 := Lib.hid (HK.out.below HK.out.lt hb1)
    have B1 := Lib.hid (HBL.out.trans (hb1.mono HBL.out.size))
    clear hb1 HK HBL HAL
    have c10 := (K1.out.cell 10).trans rfl
    go_wp2
    go_ret
    exact ⟨rfl, B1.out⟩

set_option maxHeartbeats 8000000 in
theorem back_not_err (w : World) (ht : TabM w) (h : Rc) (hw : RcW h) (hm : h.h.nm.length ≤ maxLen) (A1 : Option Addr) (n1 c1 : Nat) (l1 : List F) (h1 : RowIn w A1 n1 c1 l1) (A2 : Option Addr) (n2 c2 : Nat) (l2 : List F) (h2 : RowIn w A2 n2 c2 l2) (cut : Int) (hcut : (Lit.int .i64 cut).wf = true) (hb : h.h.nm.length ≤ 300 ∧ n1 ≤ 400 ∧ n2 ≤ 400) (hK : chkH h.h ≠ 0) (hp2 : ∃ e : Int, e ≠ 0 ∧ prC l2 = (rc0, 0, e)) :
    Calls Tryd.prog 5 #[rcV h, .slice A1 n1 c1, .slice A2 n2 c2, .int .i64 cut] w fun e w' => e = .returned (.bool true) ∧ Below w.heap.size w w' := by
  obtain ⟨i0, hi, hz0, hz1, hz2⟩ := info_parts info_u8
  have HT := Lib.hid ht
  have HK := Lib.hid (Blk.new w 29 (rcC h))
  have HBL := Lib.hid ((Below.refl w.heap.size w).alloc (Nat.le_refl _) (.cells (rcC h) 29))
  have HAL := Lib.hid alive19_c
  have hsS := S_size h.h.nm
  have H1 := Lib.hid h1
  have H2 := Lib.hid h2
  have j0 : decide ((300 : Int) < ((S h.h.nm).size : Int)) = false := decide_eq_false (by omega)
  have j1 : decide ((400 : Int) < (n1 : Int)) = false := decide_eq_false (by omega)
  have j2 : decide ((400 : Int) < (n2 : Int)) = false := decide_eq_false (by omega)
  obtain ⟨ee, hee, hpe⟩ := hp2
  have HP2 := Lib.hid (fun W hW hT => ParseC_c A2 n2 c2 l2 W hW (by omega) hT)
  rw [hpe, rc0_z] at HP2
  have bee : (ee != 0) = true := by rw [bne_iff_ne]; exact hee
  unfold z13 at HP2
  dsimp only at HP2
  clear hpe hee
  have HW := Lib.hid (WriteC_not h hw (by omega) _ rfl hK)
  have bK : (chkH h.h == 0) = false := by rw [beq_eq_false_iff_ne]; exact hK
  clear hw ht hsS hb h1 h2 hm hK
  generalize chkH h.h = K at *
  obtain ⟨⟨mm, ⟨y, mo, dd, hh, mi, s⟩, sum, p, z, nm⟩, k, o⟩ := h
  unfold rcV rcC at *
  dsimp only at *
  go_enter Tryd.func5, Tryd.ntmps5
  go_wp2_with fail
  refine (HAL.out _ (HT.out.alloc _)).mono ?_
  rintro e W1 ⟨rfl, hb1⟩
  have K1 := Lib.hid (HK.out.below HK.out.lt hb1)
  have B1 := Lib.hid (HBL.out.trans (hb1.mono HBL.out.size))
  clear hb1 HK HBL HAL
  have c10 := (K1.out.cell 10).trans rfl
  have q1 := ld_rc K1.out rfl
  go_wp2_with (with_reducible refine wpList_load_var _ _ (by with_unfolding_all rfl) q1 ?_)
  refine (HW.out _ (HT.out.below B1.out)).mono ?_
  rintro e W2 ⟨Aw, dw, rfl, _, hb2⟩
  have BB := Lib.hid (B1.out.trans (hb2.mono B1.out.size))
  clear hb2 K1 B1 c10 q1
  go_wp2_with fail
  refine (HP2.out _ (H2.out.below BB.out) (HT.out.below BB.out)).mono ?_
  rintro e W9 ⟨rfl, hb9⟩
  have hba := hb9.alloc hb9.size (.cells #[.int .i64 0, .int .i64 0, .int .i64 0, .int .i64 0, .int .i64 0, .int .i64 0, .int .i64 0, .int .u32 0, .int .u64 0, .int .u64 0, .string ⟨#[]⟩, .int .u32 0, .int .u64 0] 29)
  obtain ⟨t0, t1, t2, t3, t4, t5, t6, t7, t8, t9, t10, t11, t12⟩ := elC (Blk.new W9 29 #[.int .i64 0, .int .i64 0, .int .i64 0, .int .i64 0, .int .i64 0, .int .i64 0, .int .i64 0, .int .u32 0, .int .u64 0, .int .u64 0, .string ⟨#[]⟩, .int .u32 0, .int .u64 0])
  have BF := Lib.hid (BB.out.trans (hba.mono BB.out.size))
  clear hb9 hba
  go_wp2
  go_ret
  exact ⟨rfl, BF.out⟩

set_option maxHeartbeats 8000000 in
theorem back_yes_err_s (w : World) (ht : TabM w) (h : Rc) (hw : RcW h) (hm : h.h.nm.length ≤ maxLen) (A1 : Option Addr) (n1 c1 : Nat) (l1 : List F) (h1 : RowIn w A1 n1 c1 l1) (A2 : Option Addr) (n2 c2 : Nat) (l2 : List F) (h2 : RowIn w A2 n2 c2 l2) (cut : Int) (hcut : (Lit.int .i64 cut).wf = true) (hb : h.h.nm.length ≤ 300 ∧ n1 ≤ 400 ∧ n2 ≤ 400) (hK : chkH h.h = 0) (kc : Nat) (hkc : kc < (crX h).length) (hkr : (cut % 1024).tmod ((crX h).length : Int) = (kc : Int)) (hk4 : kc < 4) (hp2 : ∃ e : Int, e ≠ 0 ∧ prC l2 = (rc0, 0, e)) :
    Calls Tryd.prog 5 #[rcV h, .slice A1 n1 c1, .slice A2 n2 c2, .int .i64 cut] w fun e w' => e = .returned (.bool true) ∧ Below w.heap.size w w' := by
  obtain ⟨i0, hi, hz0, hz1, hz2⟩ := info_parts info_u8
  have HT := Lib.hid ht
  have HK := Lib.hid (Blk.new w 29 (rcC h))
  have HBL := Lib.hid ((Below.refl w.heap.size w).alloc (Nat.le_refl _) (.cells (rcC h) 29))
  have HAL := Lib.hid alive19_c
  have hsS := S_size h.h.nm
  have H1 := Lib.hid h1
  have H2 := Lib.hid h2
  have j0 : decide ((300 : Int) < ((S h.h.nm).size : Int)) = false := decide_eq_false (by omega)
  have j1 : decide ((400 : Int) < (n1 : Int)) = false := decide_eq_false (by omega)
  have j2 : decide ((400 : Int) < (n2 : Int)) = false := decide_eq_false (by omega)
  obtain ⟨ee, hee, hpe⟩ := hp2
  have HP2 := Lib.hid (fun W hW hT => ParseC_c A2 n2 c2 l2 W hW (by omega) hT)
  rw [hpe, rc0_z] at HP2
  have bee : (ee != 0) = true := by rw [bne_iff_ne]; exact hee
  unfold z13 at HP2
  dsimp only at HP2
  clear hpe hee
  have hXL : (crX h).length = 46 + h.h.nm.length + bh h := cdB_length h _ _ _
  have hbn := bh_le h
  have HW := Lib.hid (WriteC_yes h hw hK _ hXL.symm)
  have hp1 := prC_crX h l1 hw hK
  have hlen1 : l1.length = n1 := h1.row.len
  have HP1 := Lib.hid (fun A c W hW hT => ParseC_c A ((crX h).length + n1) c (crX h ++ l1) W hW (by omega) hT)
  rw [hp1] at HP1
  have hcutE : (prC ((crX h).take kc)).2.2 = 44 := (prC_cut h hw hK kc hkc).trans (if_pos hk4)
  have hcutV : prC ((crX h).take kc) = (rc0, 0, 44) := by
    rcases prC_two ((crX h).take kc) with ⟨H', n', e1, _⟩ | ⟨e', _, e1⟩
    · rw [e1] at hcutE; exact absurd (show (0 : Int) = 44 from hcutE) (by decide)
    · rw [e1] at hcutE ⊢; rw [show e' = 44 from hcutE]
  have HP3 := Lib.hid (fun A c W hW hT => ParseC_c A kc c ((crX h).take kc) W hW (by omega) hT)
  rw [hcutV, rc0_z] at HP3
  unfold z13 at HP3
  have hX1 : 46 ≤ (crX h).length ∧ (crX h).length ≤ 400 := by omega
  have hand : bits BinOp.and IntKind.i64 cut 1023 = cut % 1024 := by
    have := andLow cut 10 (by decide)
    rw [show (1023 : Int) = ((2 ^ 10 - 1 : Nat) : Int) from rfl, this]
    rfl
  have hpos : 0 ≤ cut % 1024 := by omega
  have hn1 : n1 ≤ 400 := hb.2.1
  clear hw ht hsS hb h1 h2 hm hK hp1 hlen1 hcutE hcutV hXL hbn
  generalize crX h = X at *
  generalize hXN : X.length = N at *
  have HXN := Lib.hid hXN
  clear hXN
  have ik : (kc : Int) < (N : Int) := by omega
  have ik4 : decide ((4 : Int) ≤ (kc : Int)) = false := decide_eq_false (by omega)
  have hmod : (cut % 1024) % (N : Int) = (kc : Int) := by rw [← hkr, Int.tmod_eq_emod_of_nonneg hpos]
  have HKR := Lib.hid hkr
  have HKM := Lib.hid hmod
  clear hpos
  obtain ⟨⟨mm, ⟨y, mo, dd, hh, mi, s⟩, sum, p, z, nm⟩, k, o⟩ := h
  unfold rcV rcC at *
  dsimp only at *
  go_enter Tryd.func5, Tryd.ntmps5
  go_wp2_with fail
  refine (HAL.out _ (HT.out.alloc _)).mono ?_
  rintro e W1 ⟨rfl, hb1⟩
  have K1 := Lib.hid (HK.out.below HK.out.lt hb1)
  have B1 := Lib.hid (HBL.out.trans (hb1.mono HBL.out.size))
  clear hb1 HK HBL HAL
  have c10 := (K1.out.cell 10).trans rfl
  have q1 := ld_rc K1.out rfl
  go_wp2_with (with_reducible refine wpList_load_var _ _ (by with_unfolding_all rfl) q1 ?_)
  refine (HW.out _ (HT.out.below B1.out)).mono ?_
  rintro e W2 ⟨g2, d2, rfl, hown2, hb2⟩
  have K2 := Lib.hid (K1.out.below K1.out.lt hb2)
  have B2 := Lib.hid (B1.out.trans (hb2.mono B1.out.size))
  have I2 := Lib.hid (own_in hown2)
  have cap2 := (own_cap hown2).1
  clear hb2 K1 B1 hown2 c10 q1
  go_wp2_with fail
  refine (Copy_c _ N d2 X _ I2.out.row (by omega)).mono ?_
  rintro e W3 ⟨A3, d3, rfl, hown3, hb3⟩
  have O3 := Lib.hid hown3
  have H23 := Lib.hid hb3
  have S3 := Lib.hid ((H1.out.row.below B2.out).below hb3)
  clear hb3 hown3
  go_wp2_with (refine wpList_append_row i0 hi hz0 hz1 hz2 (by rfl) (.tmp 48) (.tmp 49) (by rfl) W2.heap.size (.slice A3 N d3) N (cs X) (by simp [go_sem]) O3.out A1 n1 c1 l1 (by simp [go_sem]) S3.out (by omega) H23.out.size ?_; intro v5 W5 hL; obtain ⟨A5, d5, rfl, hown5, hg5, hnw5⟩ := hL)
  have h25 : Below W2.heap.size W2 W5 := H23.out.trans ((Below.refl W2.heap.size W3).grown hg5 H23.out.size (fun k hk => (O3.out.lt k hk).1))
  rw [← cs_append] at hown5
  have I5 := Lib.hid (own_in hown5)
  have K5 := Lib.hid (K2.out.below K2.out.lt h25)
  have B5 := Lib.hid (B2.out.trans (h25.mono B2.out.size))
  have J5 := Lib.hid (I2.out.below h25)
  clear hg5 hnw5 h25 K2 B2 I2 O3 H23 S3 hown5
  refine (HP1.out A5 d5 W5 I5.out (HT.out.below B5.out)).mono ?_
  rintro e W6 ⟨rfl, hb6⟩
  have hba := hb6.alloc hb6.size (.cells #[.int .i64 mm, .int .i64 y, .int .i64 mo, .int .i64 dd, .int .i64 hh, .int .i64 mi, .int .i64 s, .int .u32 sum, .int .u64 p, .int .u64 z, .string (S nm), .int .u32 k, .int .u64 o] 29)
  have E6 := Lib.hid (Blk.new W6 29 #[.int .i64 mm, .int .i64 y, .int .i64 mo, .int .i64 dd, .int .i64 hh, .int .i64 mi, .int .i64 s, .int .u32 sum, .int .u64 p, .int .u64 z, .string (S nm), .int .u32 k, .int .u64 o])
  have K6 := Lib.hid (K5.out.below K5.out.lt hba)
  have B6 := Lib.hid (B5.out.trans (hba.mono B5.out.size))
  have J6 := Lib.hid (J5.out.below hba)
  clear hb6 hba K5 B5 J5 I5
  obtain ⟨e0, e1, e2, e3, e4, e5, e6, e7, e8, e9, e10, e11, e12⟩ := elC E6.out
  obtain ⟨f0, f1, f2, f3, f4, f5, f6, f7, f8, f9, f10, f11, f12⟩ := elC K6.out
  have hkr := HKR.out
  have hmod := HKM.out
  have ik2 : (kc : Int) ≤ (d2 : Int) := by omega
  have iN0 : ((N : Int) == 0) = false := by rw [beq_eq_false_iff_ne]; omega
  go_wp2_with fail
  refine (HP3.out (some ⟨g2, 0, none⟩) d2 _ ⟨J6.out.row.take (by omega), by omega, J6.out.max⟩ (HT.out.below B6.out)).mono ?_
  rintro e W7 ⟨rfl, hb7⟩
  have hba := hb7.alloc hb7.size (.cells #[.int .i64 0, .int .i64 0, .int .i64 0, .int .i64 0, .int .i64 0, .int .i64 0, .int .i64 0, .int .u32 0, .int .u64 0, .int .u64 0, .string ⟨#[]⟩, .int .u32 0, .int .u64 0] 29)
  have BB := Lib.hid (B6.out.trans (hba.mono B6.out.size))
  clear hb7 hba K6 B6 J6 E6 e0 e1 e2 e3 e4 e5 e6 e7 e8 e9 e10 e11 e12 f0 f1 f2 f3 f4 f5 f6 f7 f8 f9 f10 f11 f12 hkr hmod
  go_wp2_with fail
  refine (HP2.out _ (H2.out.below BB.out) (HT.out.below BB.out)).mono ?_
  rintro e W9 ⟨rfl, hb9⟩
  have hba := hb9.alloc hb9.size (.cells #[.int .i64 0, .int .i64 0, .int .i64 0, .int .i64 0, .int .i64 0, .int .i64 0, .int .i64 0, .int .u32 0, .int .u64 0, .int .u64 0, .string ⟨#[]⟩, .int .u32 0, .int .u64 0] 29)
  obtain ⟨t0, t1, t2, t3, t4, t5, t6, t7, t8, t9, t10, t11, t12⟩ := elC (Blk.new W9 29 #[.int .i64 0, .int .i64 0, .int .i64 0, .int .i64 0, .int .i64 0, .int .i64 0, .int .i64 0, .int .u32 0, .int .u64 0, .int .u64 0, .string ⟨#[]⟩, .int .u32 0, .int .u64 0])
  have BF := Lib.hid (BB.out.trans (hba.mono BB.out.size))
  clear hb9 hba
  go_wp2
  go_ret
  exact ⟨rfl, BF.out⟩

set_option maxHeartbeats 8000000 in
theorem back_yes_err_l (w : World) (ht : TabM w) (h : Rc) (hw : RcW h) (hm : h.h.nm.length ≤ maxLen) (A1 : Option Addr) (n1 c1 : Nat) (l1 : List F) (h1 : RowIn w A1 n1 c1 l1) (A2 : Option Addr) (n2 c2 : Nat) (l2 : List F) (h2 : RowIn w A2 n2 c2 l2) (cut : Int) (hcut : (Lit.int .i64 cut).wf = true) (hb : h.h.nm.length ≤ 300 ∧ n1 ≤ 400 ∧ n2 ≤ 400) (hK : chkH h.h = 0) (kc : Nat) (hkc : kc < (crX h).length) (hkr : (cut % 1024).tmod ((crX h).length : Int) = (kc : Int)) (hk4 : ¬ kc < 4) (hp2 : ∃ e : Int, e ≠ 0 ∧ prC l2 = (rc0, 0, e)) :
    Calls Tryd.prog 5 #[rcV h, .slice A1 n1 c1, .slice A2 n2 c2, .int .i64 cut] w fun e w' => e = .returned (.bool true) ∧ Below w.heap.size w w' := by
  obtain ⟨i0, hi, hz0, hz1, hz2⟩ := info_parts info_u8
  have HT := Lib.hid ht
  have HK := Lib.hid (Blk.new w 29 (rcC h))
  have HBL := Lib.hid ((Below.refl w.heap.size w).alloc (Nat.le_refl _) (.cells (rcC h) 29))
  have HAL := Lib.hid alive19_c
  have hsS := S_size h.h.nm
  have H1 := Lib.hid h1
  have H2 := Lib.hid h2
  have j0 : decide ((300 : Int) < ((S h.h.nm).size : Int)) = false := decide_eq_false (by omega)
  have j1 : decide ((400 : Int) < (n1 : Int)) = false := decide_eq_false (by omega)
  have j2 : decide ((400 : Int) < (n2 : Int)) = false := decide_eq_false (by omega)
  obtain ⟨ee, hee, hpe⟩ := hp2
  have HP2 := Lib.hid (fun W hW hT => ParseC_c A2 n2 c2 l2 W hW (by omega) hT)
  rw [hpe, rc0_z] at HP2
  have bee : (ee != 0) = true := by rw [bne_iff_ne]; exact hee
  unfold z13 at HP2
  dsimp only at HP2
  clear hpe hee
  have hXL : (crX h).length = 46 + h.h.nm.length + bh h := cdB_length h _ _ _
  have hbn := bh_le h
  have HW := Lib.hid (WriteC_yes h hw hK _ hXL.symm)
  have hp1 := prC_crX h l1 hw hK
  have hlen1 : l1.length = n1 := h1.row.len
  have HP1 := Lib.hid (fun A c W hW hT => ParseC_c A ((crX h).length + n1) c (crX h ++ l1) W hW (by omega) hT)
  rw [hp1] at HP1
  have hcutE : (prC ((crX h).take kc)).2.2 = 20 := (prC_cut h hw hK kc hkc).trans (if_neg hk4)
  have hcutV : prC ((crX h).take kc) = (rc0, 0, 20) := by
    rcases prC_two ((crX h).take kc) with ⟨H', n', e1, _⟩ | ⟨e', _, e1⟩
    · rw [e1] at hcutE; exact absurd (show (0 : Int) = 20 from hcutE) (by decide)
    · rw [e1] at hcutE ⊢; rw [show e' = 20 from hcutE]
  have HP3 := Lib.hid (fun A c W hW hT => ParseC_c A kc c ((crX h).take kc) W hW (by omega) hT)
  rw [hcutV, rc0_z] at HP3
  unfold z13 at HP3
  have hX1 : 46 ≤ (crX h).length ∧ (crX h).length ≤ 400 := by omega
  have hand : bits BinOp.and IntKind.i64 cut 1023 = cut % 1024 := by
    have := andLow cut 10 (by decide)
    rw [show (1023 : Int) = ((2 ^ 10 - 1 : Nat) : Int) from rfl, this]
    rfl
  have hpos : 0 ≤ cut % 1024 := by omega
  have hn1 : n1 ≤ 400 := hb.2.1
  clear hw ht hsS hb h1 h2 hm hK hp1 hlen1 hcutE hcutV hXL hbn
  generalize crX h = X at *
  generalize hXN : X.length = N at *
  have HXN := Lib.hid hXN
  clear hXN
  have ik : (kc : Int) < (N : Int) := by omega
  have ik4 : decide ((4 : Int) ≤ (kc : Int)) = true := decide_eq_true (by omega)
  have hmod : (cut % 1024) % (N : Int) = (kc : Int) := by rw [← hkr, Int.tmod_eq_emod_of_nonneg hpos]
  have HKR := Lib.hid hkr
  have HKM := Lib.hid hmod
  clear hpos
  obtain ⟨⟨mm, ⟨y, mo, dd, hh, mi, s⟩, sum, p, z, nm⟩, k, o⟩ := h
  unfold rcV rcC at *
  dsimp only at *
  go_enter Tryd.func5, Tryd.ntmps5
  go_wp2_with fail
  refine (HAL.out _ (HT.out.alloc _)).mono ?_
  rintro e W1 ⟨rfl, hb1⟩
  have K1 := Lib.hid (HK.out.below HK.out.lt hb1)
  have B1 := Lib.hid (HBL.out.trans (hb1.mono HBL.out.size))
  clear hb1 HK HBL HAL
  have c10 := (K1.out.cell 10).trans rfl
  have q1 := ld_rc K1.out rfl
  go_wp2_with (with_reducible refine wpList_load_var _ _ (by with_unfolding_all rfl) q1 ?_)
  refine (HW.out _ (HT.out.below B1.out)).mono ?_
  rintro e W2 ⟨g2, d2, rfl, hown2, hb2⟩
  have K2 := Lib.hid (K1.out.below K1.out.lt hb2)
  have B2 := Lib.hid (B1.out.trans (hb2.mono B1.out.size))
  have I2 := Lib.hid (own_in hown2)
  have cap2 := (own_cap hown2).1
  clear hb2 K1 B1 hown2 c10 q1
  go_wp2_with fail
  refine (Copy_c _ N d2 X _ I2.out.row (by omega)).mono ?_
  rintro e W3 ⟨A3, d3, rfl, hown3, hb3⟩
  have O3 := Lib.hid hown3
  have H23 := Lib.hid hb3
  have S3 := Lib.hid ((H1.out.row.below B2.out).below hb3)
  clear hb3 hown3
  go_wp2_with (refine wpList_append_row i0 hi hz0 hz1 hz2 (by rfl) (.tmp 48) (.tmp 49) (by rfl) W2.heap.size (.slice A3 N d3) N (cs X) (by simp [go_sem]) O3.out A1 n1 c1 l1 (by simp [go_sem]) S3.out (by omega) H23.out.size ?_; intro v5 W5 hL; obtain ⟨A5, d5, rfl, hown5, hg5, hnw5⟩ := hL)
  have h25 : Below W2.heap.size W2 W5 := H23.out.trans ((Below.refl W2.heap.size W3).grown hg5 H23.out.size (fun k hk => (O3.out.lt k hk).1))
  rw [← cs_append] at hown5
  have I5 := Lib.hid (own_in hown5)
  have K5 := Lib.hid (K2.out.below K2.out.lt h25)
  have B5 := Lib.hid (B2.out.trans (h25.mono B2.out.size))
  have J5 := Lib.hid (I2.out.below h25)
  clear hg5 hnw5 h25 K2 B2 I2 O3 H23 S3 hown5
  refine (HP1.out A5 d5 W5 I5.out (HT.out.below B5.out)).mono ?_
  rintro e W6 ⟨rfl, hb6⟩
  have hba := hb6.alloc hb6.size (.cells #[.int .i64 mm, .int .i64 y, .int .i64 mo, .int .i64 dd, .int .i64 hh, .int .i64 mi, .int .i64 s, .int .u32 sum, .int .u64 p, .int .u64 z, .string (S nm), .int .u32 k, .int .u64 o] 29)
  have E6 := Lib.hid (Blk.new W6 29 #[.int .i64 mm, .int .i64 y, .int .i64 mo, .int .i64 dd, .int .i64 hh, .int .i64 mi, .int .i64 s, .int .u32 sum, .int .u64 p, .int .u64 z, .string (S nm), .int .u32 k, .int .u64 o])
  have K6 := Lib.hid (K5.out.below K5.out.lt hba)
  have B6 := Lib.hid (B5.out.trans (hba.mono B5.out.size))
  have J6 := Lib.hid (J5.out.below hba)
  clear hb6 hba K5 B5 J5 I5
  obtain ⟨e0, e1, e2, e3, e4, e5, e6, e7, e8, e9, e10, e11, e12⟩ := elC E6.out
  obtain ⟨f0, f1, f2, f3, f4, f5, f6, f7, f8, f9, f10, f11, f12⟩ := elC K6.out
  have hkr := HKR.out
  have hmod := HKM.out
  have ik2 : (kc : Int) ≤ (d2 : Int) := by omega
  have iN0 : ((N : Int) == 0) = false := by rw [beq_eq_false_iff_ne]; omega
  go_wp2_with fail
  refine (HP3.out (some ⟨g2, 0, none⟩) d2 _ ⟨J6.out.row.take (by omega), by omega, J6.out.max⟩ (HT.out.below B6.out)).mono ?_
  rintro e W7 ⟨rfl, hb7⟩
  have hba := hb7.alloc hb7.size (.cells #[.int .i64 0, .int .i64 0, .int .i64 0, .int .i64 0, .int .i64 0, .int .i64 0, .int .i64 0, .int .u32 0, .int .u64 0, .int .u64 0, .string ⟨#[]⟩, .int .u32 0, .int .u64 0] 29)
  have BB := Lib.hid (B6.out.trans (hba.mono B6.out.size))
  clear hb7 hba K6 B6 J6 E6 e0 e1 e2 e3 e4 e5 e6 e7 e8 e9 e10 e11 e12 f0 f1 f2 f3 f4 f5 f6 f7 f8 f9 f10 f11 f12 hkr hmod
  go_wp2_with fail
  refine (HP2.out _ (H2.out.below BB.out) (HT.out.below BB.out)).mono ?_
  rintro e W9 ⟨rfl, hb9⟩
  have hba := hb9.alloc hb9.size (.cells #[.int .i64 0, .int .i64 0, .int .i64 0, .int .i64 0, .int .i64 0, .int .i64 0, .int .i64 0, .int .u32 0, .int .u64 0, .int .u64 0, .string ⟨#[]⟩, .int .u32 0, .int .u64 0] 29)
  obtain ⟨t0, t1, t2, t3, t4, t5, t6, t7, t8, t9, t10, t11, t12⟩ := elC (Blk.new W9 29 #[.int .i64 0, .int .i64 0, .int .i64 0, .int .i64 0, .int .i64 0, .int .i64 0, .int .i64 0, .int .u32 0, .int .u64 0, .int .u64 0, .string ⟨#[]⟩, .int .u32 0, .int .u64 0])
  have BF := Lib.hid (BB.out.trans (hba.mono BB.out.size))
  clear hb9 hba
  go_wp2
  go_ret
  exact ⟨rfl, BF.out⟩

set_option maxHeartbeats 8000000 in
theorem back_not_ok (w : World) (ht : TabM w) (h : Rc) (hw : RcW h) (hm : h.h.nm.length ≤ maxLen) (A1 : Option Addr) (n1 c1 : Nat) (l1 : List F) (h1 : RowIn w A1 n1 c1 l1) (A2 : Option Addr) (n2 c2 : Nat) (l2 : List F) (h2 : RowIn w A2 n2 c2 l2) (cut : Int) (hcut : (Lit.int .i64 cut).wf = true) (hb : h.h.nm.length ≤ 300 ∧ n1 ≤ 400 ∧ n2 ≤ 400) (hK : chkH h.h ≠ 0) (hp2 : ∃ (H : Rc) (n : Nat), prC l2 = (H, n, 0) ∧ RcW H ∧ chkH H.h = 0 ∧ n ≤ l2.length ∧ crX H = l2.take n) :
    Calls Tryd.prog 5 #[rcV h, .slice A1 n1 c1, .slice A2 n2 c2, .int .i64 cut] w fun e w' => e = .returned (.bool true) ∧ Below w.heap.size w w' := by
  obtain ⟨i0, hi, hz0, hz1, hz2⟩ := info_parts info_u8
  have HT := Lib.hid ht
  have HK := Lib.hid (Blk.new w 29 (rcC h))
  have HBL := Lib.hid ((Below.refl w.heap.size w).alloc (Nat.le_refl _) (.cells (rcC h) 29))
  have HAL := Lib.hid alive19_c
  have hsS := S_size h.h.nm
  have H1 := Lib.hid h1
  have H2 := Lib.hid h2
  have j0 : decide ((300 : Int) < ((S h.h.nm).size : Int)) = false := decide_eq_false (by omega)
  have j1 : decide ((400 : Int) < (n1 : Int)) = false := decide_eq_false (by omega)
  have j2 : decide ((400 : Int) < (n2 : Int)) = false := decide_eq_false (by omega)
  obtain ⟨H, M, hpe, hHw, hHc, hMl, hHX⟩ := hp2
  have HP2 := Lib.hid (fun W hW hT => ParseC_c A2 n2 c2 l2 W hW (by omega) hT)
  rw [hpe] at HP2
  have hlen2 : l2.length = n2 := h2.row.len
  have HMle : Hid (M ≤ n2) := by unfold Hid; omega
  have iM : (M : Int) ≤ (n2 : Int) := by have := HMle.out; omega
  have iM2 : (M : Int) ≤ (c2 : Int) := by have := HMle.out; have := h2.le; omega
  have HW2 := Lib.hid (WriteC_yes H hHw hHc _ rfl)
  have HXE : Hid (decide (crX H = l2.take M) = true) := decide_eq_true hHX
  clear hpe hHw hHc hMl hHX hlen2
  generalize crX H = XH at *
  generalize 46 + H.h.nm.length + bh H = NX at *
  obtain ⟨⟨mm', ⟨y', mo', dd', hh', mi', s'⟩, sum', p', z', nm'⟩, k', o'⟩ := H
  have HW := Lib.hid (WriteC_not h hw (by omega) _ rfl hK)
  have bK : (chkH h.h == 0) = false := by rw [beq_eq_false_iff_ne]; exact hK
  clear hw ht hsS hb h1 h2 hm hK
  generalize chkH h.h = K at *
  obtain ⟨⟨mm, ⟨y, mo, dd, hh, mi, s⟩, sum, p, z, nm⟩, k, o⟩ := h
  unfold rcV rcC at *
  dsimp only at *
  go_enter Tryd.func5, Tryd.ntmps5
  go_wp2_with fail
  refine (HAL.out _ (HT.out.alloc _)).mono ?_
  rintro e W1 ⟨rfl, hb1⟩
  have K1 := Lib.hid (HK.out.below HK.out.lt hb1)
  have B1 := Lib.hid (HBL.out.trans (hb1.mono HBL.out.size))
  clear hb1 HK HBL HAL
  have c10 := (K1.out.cell 10).trans rfl
  have q1 := ld_rc K1.out rfl
  go_wp2_with (with_reducible refine wpList_load_var _ _ (by with_unfolding_all rfl) q1 ?_)
  refine (HW.out _ (HT.out.below B1.out)).mono ?_
  rintro e W2 ⟨Aw, dw, rfl, _, hb2⟩
  have BB := Lib.hid (B1.out.trans (hb2.mono B1.out.size))
  clear hb2 K1 B1 c10 q1
  go_wp2_with fail
  refine (HP2.out _ (H2.out.below BB.out) (HT.out.below BB.out)).mono ?_
  rintro e W9 ⟨rfl, hb9⟩
  have hba := hb9.alloc hb9.size (.cells #[.int .i64 mm', .int .i64 y', .int .i64 mo', .int .i64 dd', .int .i64 hh', .int .i64 mi', .int .i64 s', .int .u32 sum', .int .u64 p', .int .u64 z', .string (S nm'), .int .u32 k', .int .u64 o'] 29)
  have qx := ld_rc (Blk.new W9 29 #[.int .i64 mm', .int .i64 y', .int .i64 mo', .int .i64 dd', .int .i64 hh', .int .i64 mi', .int .i64 s', .int .u32 sum', .int .u64 p', .int .u64 z', .string (S nm'), .int .u32 k', .int .u64 o']) rfl
  have BF := Lib.hid (BB.out.trans (hba.mono BB.out.size))
  clear hb9 hba
  go_wp2_with (with_reducible refine wpList_load_var _ _ (by with_unfolding_all rfl) qx ?_)
  refine (HW2.out _ (HT.out.below BF.out)).mono ?_
  rintro e W10 ⟨gx, dx, rfl, hownx, hb10⟩
  have BG := Lib.hid (BF.out.trans (hb10.mono BF.out.size))
  have RX := Lib.hid (Row.of_own hownx)
  have RY := Lib.hid ((H2.out.row.take (k := M) HMle.out).below BG.out)
  clear hownx hb10 BF
  go_wp2_with (go_at_call 12; refine (SameA_c _ _ _ _ _ _ _ _ _ RX.out RY.out).mono ?_; rw [HXE.out]; rintro e _ ⟨rfl, q, rfl⟩)
  go_ret
  exact ⟨rfl, below_drewN BG.out q⟩

set_option maxHeartbeats 8000000 in
theorem back_yes_ok_s (w : World) (ht : TabM w) (h : Rc) (hw : RcW h) (hm : h.h.nm.length ≤ maxLen) (A1 : Option Addr) (n1 c1 : Nat) (l1 : List F) (h1 : RowIn w A1 n1 c1 l1) (A2 : Option Addr) (n2 c2 : Nat) (l2 : List F) (h2 : RowIn w A2 n2 c2 l2) (cut : Int) (hcut : (Lit.int .i64 cut).wf = true) (hb : h.h.nm.length ≤ 300 ∧ n1 ≤ 400 ∧ n2 ≤ 400) (hK : chkH h.h = 0) (kc : Nat) (hkc : kc < (crX h).length) (hkr : (cut % 1024).tmod ((crX h).length : Int) = (kc : Int)) (hk4 : kc < 4) (hp2 : ∃ (H : Rc) (n : Nat), prC l2 = (H, n, 0) ∧ RcW H ∧ chkH H.h = 0 ∧ n ≤ l2.length ∧ crX H = l2.take n) :
    Calls Tryd.prog 5 #[rcV h, .slice A1 n1 c1, .slice A2 n2 c2, .int .i64 cut] w fun e w' => e = .returned (.bool true) ∧ Below w.heap.size w w' := by
  obtain ⟨i0, hi, hz0, hz1, hz2⟩ := info_parts info_u8
  have HT := Lib.hid ht
  have HK := Lib.hid (Blk.new w 29 (rcC h))
  have HBL := Lib.hid ((Below.refl w.heap.size w).alloc (Nat.le_refl _) (.cells (rcC h) 29))
  have HAL := Lib.hid alive19_c
  have hsS := S_size h.h.nm
  have H1 := Lib.hid h1
  have H2 := Lib.hid h2
  have j0 : decide ((300 : Int) < ((S h.h.nm).size : Int)) = false := decide_eq_false (by omega)
  have j1 : decide ((400 : Int) < (n1 : Int)) = false := decide_eq_false (by omega)
  have j2 : decide ((400 : Int) < (n2 : Int)) = false := decide_eq_false (by omega)
  obtain ⟨H, M, hpe, hHw, hHc, hMl, hHX⟩ := hp2
  have HP2 := Lib.hid (fun W hW hT => ParseC_c A2 n2 c2 l2 W hW (by omega) hT)
  rw [hpe] at HP2
  have hlen2 : l2.length = n2 := h2.row.len
  have HMle : Hid (M ≤ n2) := by unfold Hid; omega
  have iM : (M : Int) ≤ (n2 : Int) := by have := HMle.out; omega
  have iM2 : (M : Int) ≤ (c2 : Int) := by have := HMle.out; have := h2.le; omega
  have HW2 := Lib.hid (WriteC_yes H hHw hHc _ rfl)
  have HXE : Hid (decide (crX H = l2.take M) = true) := decide_eq_true hHX
  clear hpe hHw hHc hMl hHX hlen2
  generalize crX H = XH at *
  generalize 46 + H.h.nm.length + bh H = NX at *
  obtain ⟨⟨mm', ⟨y', mo', dd', hh', mi', s'⟩, sum', p', z', nm'⟩, k', o'⟩ := H
  have hXL : (crX h).length = 46 + h.h.nm.length + bh h := cdB_length h _ _ _
  have hbn := bh_le h
  have HW := Lib.hid (WriteC_yes h hw hK _ hXL.symm)
  have hp1 := prC_crX h l1 hw hK
  have hlen1 : l1.length = n1 := h1.row.len
  have HP1 := Lib.hid (fun A c W hW hT => ParseC_c A ((crX h).length + n1) c (crX h ++ l1) W hW (by omega) hT)
  rw [hp1] at HP1
  have hcutE : (prC ((crX h).take kc)).2.2 = 44 := (prC_cut h hw hK kc hkc).trans (if_pos hk4)
  have hcutV : prC ((crX h).take kc) = (rc0, 0, 44) := by
    rcases prC_two ((crX h).take kc) with ⟨H', n', e1, _⟩ | ⟨e', _, e1⟩
    · rw [e1] at hcutE; exact absurd (show (0 : Int) = 44 from hcutE) (by decide)
    · rw [e1] at hcutE ⊢; rw [show e' = 44 from hcutE]
  have HP3 := Lib.hid (fun A c W hW hT => ParseC_c A kc c ((crX h).take kc) W hW (by omega) hT)
  rw [hcutV, rc0_z] at HP3
  unfold z13 at HP3
  have hX1 : 46 ≤ (crX h).length ∧ (crX h).length ≤ 400 := by omega
  have hand : bits BinOp.and IntKind.i64 cut 1023 = cut % 1024 := by
    have := andLow cut 10 (by decide)
    rw [show (1023 : Int) = ((2 ^ 10 - 1 : Nat) : Int) from rfl, this]
    rfl
  have hpos : 0 ≤ cut % 1024 := by omega
  have hn1 : n1 ≤ 400 := hb.2.1
  clear hw ht hsS hb h1 h2 hm hK hp1 hlen1 hcutE hcutV hXL hbn
  generalize crX h = X at *
  generalize hXN : X.length = N at *
  have HXN := Lib.hid hXN
  clear hXN
  have ik : (kc : Int) < (N : Int) := by omega
  have ik4 : decide ((4 : Int) ≤ (kc : Int)) = false := decide_eq_false (by omega)
  have hmod : (cut % 1024) % (N : Int) = (kc : Int) := by rw [← hkr, Int.tmod_eq_emod_of_nonneg hpos]
  have HKR := Lib.hid hkr
  have HKM := Lib.hid hmod
  clear hpos
  obtain ⟨⟨mm, ⟨y, mo, dd, hh, mi, s⟩, sum, p, z, nm⟩, k, o⟩ := h
  unfold rcV rcC at *
  dsimp only at *
  go_enter Tryd.func5, Tryd.ntmps5
  go_wp2_with fail
  refine (HAL.out _ (HT.out.alloc _)).mono ?_
  rintro e W1 ⟨rfl, hb1⟩
  have K1 := Lib.hid (HK.out.below HK.out.lt hb1)
  have B1 := Lib.hid (HBL.out.trans (hb1.mono HBL.out.size))
  clear hb1 HK HBL HAL
  have c10 := (K1.out.cell 10).trans rfl
  have q1 := ld_rc K1.out rfl
  go_wp2_with (with_reducible refine wpList_load_var _ _ (by with_unfolding_all rfl) q1 ?_)
  refine (HW.out _ (HT.out.below B1.out)).mono ?_
  rintro e W2 ⟨g2, d2, rfl, hown2, hb2⟩
  have K2 := Lib.hid (K1.out.below K1.out.lt hb2)
  have B2 := Lib.hid (B1.out.trans (hb2.mono B1.out.size))
  have I2 := Lib.hid (own_in hown2)
  have cap2 := (own_cap hown2).1
  clear hb2 K1 B1 hown2 c10 q1
  go_wp2_with fail
  refine (Copy_c _ N d2 X _ I2.out.row (by omega)).mono ?_
  rintro e W3 ⟨A3, d3, rfl, hown3, hb3⟩
  have O3 := Lib.hid hown3
  have H23 := Lib.hid hb3
  have S3 := Lib.hid ((H1.out.row.below B2.out).below hb3)
  clear hb3 hown3
  go_wp2_with (refine wpList_append_row i0 hi hz0 hz1 hz2 (by rfl) (.tmp 48) (.tmp 49) (by rfl) W2.heap.size (.slice A3 N d3) N (cs X) (by simp [go_sem]) O3.out A1 n1 c1 l1 (by simp [go_sem]) S3.out (by omega) H23.out.size ?_; intro v5 W5 hL; obtain ⟨A5, d5, rfl, hown5, hg5, hnw5⟩ := hL)
  have h25 : Below W2.heap.size W2 W5 := H23.out.trans ((Below.refl W2.heap.size W3).grown hg5 H23.out.size (fun k hk => (O3.out.lt k hk).1))
  rw [← cs_append] at hown5
  have I5 := Lib.hid (own_in hown5)
  have K5 := Lib.hid (K2.out.below K2.out.lt h25)
  have B5 := Lib.hid (B2.out.trans (h25.mono B2.out.size))
  have J5 := Lib.hid (I2.out.below h25)
  clear hg5 hnw5 h25 K2 B2 I2 O3 H23 S3 hown5
  refine (HP1.out A5 d5 W5 I5.out (HT.out.below B5.out)).mono ?_
  rintro e W6 ⟨rfl, hb6⟩
  have hba := hb6.alloc hb6.size (.cells #[.int .i64 mm, .int .i64 y, .int .i64 mo, .int .i64 dd, .int .i64 hh, .int .i64 mi, .int .i64 s, .int .u32 sum, .int .u64 p, .int .u64 z, .string (S nm), .int .u32 k, .int .u64 o] 29)
  have E6 := Lib.hid (Blk.new W6 29 #[.int .i64 mm, .int .i64 y, .int .i64 mo, .int .i64 dd, .int .i64 hh, .int .i64 mi, .int .i64 s, .int .u32 sum, .int .u64 p, .int .u64 z, .string (S nm), .int .u32 k, .int .u64 o])
  have K6 := Lib.hid (K5.out.below K5.out.lt hba)
  have B6 := Lib.hid (B5.out.trans (hba.mono B5.out.size))
  have J6 := Lib.hid (J5.out.below hba)
  clear hb6 hba K5 B5 J5 I5
  obtain ⟨e0, e1, e2, e3, e4, e5, e6, e7, e8, e9, e10, e11, e12⟩ := elC E6.out
  obtain ⟨f0, f1, f2, f3, f4, f5, f6, f7, f8, f9, f10, f11, f12⟩ := elC K6.out
  have hkr := HKR.out
  have hmod := HKM.out
  have ik2 : (kc : Int) ≤ (d2 : Int) := by omega
  have iN0 : ((N : Int) == 0) = false := by rw [beq_eq_false_iff_ne]; omega
  go_wp2_with fail
  refine (HP3.out (some ⟨g2, 0, none⟩) d2 _ ⟨J6.out.row.take (by omega), by omega, J6.out.max⟩ (HT.out.below B6.out)).mono ?_
  rintro e W7 ⟨rfl, hb7⟩
  have hba := hb7.alloc hb7.size (.cells #[.int .i64 0, .int .i64 0, .int .i64 0, .int .i64 0, .int .i64 0, .int .i64 0, .int .i64 0, .int .u32 0, .int .u64 0, .int .u64 0, .string ⟨#[]⟩, .int .u32 0, .int .u64 0] 29)
  have BB := Lib.hid (B6.out.trans (hba.mono B6.out.size))
  clear hb7 hba K6 B6 J6 E6 e0 e1 e2 e3 e4 e5 e6 e7 e8 e9 e10 e11 e12 f0 f1 f2 f3 f4 f5 f6 f7 f8 f9 f10 f11 f12 hkr hmod
  go_wp2_with fail
  refine (HP2.out _ (H2.out.below BB.out) (HT.out.below BB.out)).mono ?_
  rintro e W9 ⟨rfl, hb9⟩
  have hba := hb9.alloc hb9.size (.cells #[.int .i64 mm', .int .i64 y', .int .i64 mo', .int .i64 dd', .int .i64 hh', .int .i64 mi', .int .i64 s', .int .u32 sum', .int .u64 p', .int .u64 z', .string (S nm'), .int .u32 k', .int .u64 o'] 29)
  have qx := ld_rc (Blk.new W9 29 #[.int .i64 mm', .int .i64 y', .int .i64 mo', .int .i64 dd', .int .i64 hh', .int .i64 mi', .int .i64 s', .int .u32 sum', .int .u64 p', .int .u64 z', .string (S nm'), .int .u32 k', .int .u64 o']) rfl
  have BF := Lib.hid (BB.out.trans (hba.mono BB.out.size))
  clear hb9 hba
  go_wp2_with (with_reducible refine wpList_load_var _ _ (by with_unfolding_all rfl) qx ?_)
  refine (HW2.out _ (HT.out.below BF.out)).mono ?_
  rintro e W10 ⟨gx, dx, rfl, hownx, hb10⟩
  have BG := Lib.hid (BF.out.trans (hb10.mono BF.out.size))
  have RX := Lib.hid (Row.of_own hownx)
  have RY := Lib.hid ((H2.out.row.take (k := M) HMle.out).below BG.out)
  clear hownx hb10 BF
  go_wp2_with (go_at_call 12; refine (SameA_c _ _ _ _ _ _ _ _ _ RX.out RY.out).mono ?_; rw [HXE.out]; rintro e _ ⟨rfl, q, rfl⟩)
  go_ret
  exact ⟨rfl, below_drewN BG.out q⟩

set_option maxHeartbeats 8000000 in
theorem back_yes_ok_l (w : World) (ht : TabM w) (h : Rc) (hw : RcW h) (hm : h.h.nm.length ≤ maxLen) (A1 : Option Addr) (n1 c1 : Nat) (l1 : List F) (h1 : RowIn w A1 n1 c1 l1) (A2 : Option Addr) (n2 c2 : Nat) (l2 : List F) (h2 : RowIn w A2 n2 c2 l2) (cut : Int) (hcut : (Lit.int .i64 cut).wf = true) (hb : h.h.nm.length ≤ 300 ∧ n1 ≤ 400 ∧ n2 ≤ 400) (hK : chkH h.h = 0) (kc : Nat) (hkc : kc < (crX h).length) (hkr : (cut % 1024).tmod ((crX h).length : Int) = (kc : Int)) (hk4 : ¬ kc < 4) (hp2 : ∃ (H : Rc) (n : Nat), prC l2 = (H, n, 0) ∧ RcW H ∧ chkH H.h = 0 ∧ n ≤ l2.length ∧ crX H = l2.take n) :
    Calls Tryd.prog 5 #[rcV h, .slice A1 n1 c1, .slice A2 n2 c2, .int .i64 cut] w fun e w' => e = .returned (.bool true) ∧ Below w.heap.size w w' := by
  obtain ⟨i0, hi, hz0, hz1, hz2⟩ := info_parts info_u8
  have HT := Lib.hid ht
  have HK := Lib.hid (Blk.new w 29 (rcC h))
  have HBL := Lib.hid ((Below.refl w.heap.size w).alloc (Nat.le_refl _) (.cells (rcC h) 29))
  have HAL := Lib.hid alive19_c
  have hsS := S_size h.h.nm
  have H1 := Lib.hid h1
  have H2 := Lib.hid h2
  have j0 : decide ((300 : Int) < ((S h.h.nm).size : Int)) = false := decide_eq_false (by omega)
  have j1 : decide ((400 : Int) < (n1 : Int)) = false := decide_eq_false (by omega)
  have j2 : decide ((400 : Int) < (n2 : Int)) = false := decide_eq_false (by omega)
  obtain ⟨H, M, hpe, hHw, hHc, hMl, hHX⟩ := hp2
  have HP2 := Lib.hid (fun W hW hT => ParseC_c A2 n2 c2 l2 W hW (by omega) hT)
  rw [hpe] at HP2
  have hlen2 : l2.length = n2 := h2.row.len
  have HMle : Hid (M ≤ n2) := by unfold Hid; omega
  have iM : (M : Int) ≤ (n2 : Int) := by have := HMle.out; omega
  have iM2 : (M : Int) ≤ (c2 : Int) := by have := HMle.out; have := h2.le; omega
  have HW2 := Lib.hid (WriteC_yes H hHw hHc _ rfl)
  have HXE : Hid (decide (crX H = l2.take M) = true) := decide_eq_true hHX
  clear hpe hHw hHc hMl hHX hlen2
  generalize crX H = XH at *
  generalize 46 + H.h.nm.length + bh H = NX at *
  obtain ⟨⟨mm', ⟨y', mo', dd', hh', mi', s'⟩, sum', p', z', nm'⟩, k', o'⟩ := H
  have hXL : (crX h).length = 46 + h.h.nm.length + bh h := cdB_length h _ _ _
  have hbn := bh_le h
  have HW := Lib.hid (WriteC_yes h hw hK _ hXL.symm)
  have hp1 := prC_crX h l1 hw hK
  have hlen1 : l1.length = n1 := h1.row.len
  have HP1 := Lib.hid (fun A c W hW hT => ParseC_c A ((crX h).length + n1) c (crX h ++ l1) W hW (by omega) hT)
  rw [hp1] at HP1
  have hcutE : (prC ((crX h).take kc)).2.2 = 20 := (prC_cut h hw hK kc hkc).trans (if_neg hk4)
  have hcutV : prC ((crX h).take kc) = (rc0, 0, 20) := by
    rcases prC_two ((crX h).take kc) with ⟨H', n', e1, _⟩ | ⟨e', _, e1⟩
    · rw [e1] at hcutE; exact absurd (show (0 : Int) = 20 from hcutE) (by decide)
    · rw [e1] at hcutE ⊢; rw [show e' = 20 from hcutE]
  have HP3 := Lib.hid (fun A c W hW hT => ParseC_c A kc c ((crX h).take kc) W hW (by omega) hT)
  rw [hcutV, rc0_z] at HP3
  unfold z13 at HP3
  have hX1 : 46 ≤ (crX h).length ∧ (crX h).length ≤ 400 := by omega
  have hand : bits BinOp.and IntKind.i64 cut 1023 = cut % 1024 := by
    have := andLow cut 10 (by decide)
    rw [show (1023 : Int) = ((2 ^ 10 - 1 : Nat) : Int) from rfl, this]
    rfl
  have hpos : 0 ≤ cut % 1024 := by omega
  have hn1 : n1 ≤ 400 := hb.2.1
  clear hw ht hsS hb h1 h2 hm hK hp1 hlen1 hcutE hcutV hXL hbn
  generalize crX h = X at *
  generalize hXN : X.length = N at *
  have HXN := Lib.hid hXN
  clear hXN
  have ik : (kc : Int) < (N : Int) := by omega
  have ik4 : decide ((4 : Int) ≤ (kc : Int)) = true := decide_eq_true (by omega)
  have hmod : (cut % 1024) % (N : Int) = (kc : Int) := by rw [← hkr, Int.tmod_eq_emod_of_nonneg hpos]
  have HKR := Lib.hid hkr
  have HKM := Lib.hid hmod
  clear hpos
  obtain ⟨⟨mm, ⟨y, mo, dd, hh, mi, s⟩, sum, p, z, nm⟩, k, o⟩ := h
  unfold rcV rcC at *
  dsimp only at *
  go_enter Tryd.func5, Tryd.ntmps5
  go_wp2_with fail
  refine (HAL.out _ (HT.out.alloc _)).mono ?_
  rintro e W1 ⟨rfl, hb1⟩
  have K1 := Lib.hid (HK.out.below HK.out.lt hb1)
  have B1 := Lib.hid (HBL.out.trans (hb1.mono HBL.out.size))
  clear hb1 HK HBL HAL
  have c10 := (K1.out.cell 10).trans rfl
  have q1 := ld_rc K1.out rfl
  go_wp2_with (with_reducible refine wpList_load_var _ _ (by with_unfolding_all rfl) q1 ?_)
  refine (HW.out _ (HT.out.below B1.out)).mono ?_
  rintro e W2 ⟨g2, d2, rfl, hown2, hb2⟩
  have K2 := Lib.hid (K1.out.below K1.out.lt hb2)
  have B2 := Lib.hid (B1.out.trans (hb2.mono B1.out.size))
  have I2 := Lib.hid (own_in hown2)
  have cap2 := (own_cap hown2).1
  clear hb2 K1 B1 hown2 c10 q1
  go_wp2_with fail
  refine (Copy_c _ N d2 X _ I2.out.row (by omega)).mono ?_
  rintro e W3 ⟨A3, d3, rfl, hown3, hb3⟩
  have O3 := Lib.hid hown3
  have H23 := Lib.hid hb3
  have S3 := Lib.hid ((H1.out.row.below B2.out).below hb3)
  clear hb3 hown3
  go_wp2_with (refine wpList_append_row i0 hi hz0 hz1 hz2 (by rfl) (.tmp 48) (.tmp 49) (by rfl) W2.heap.size (.slice A3 N d3) N (cs X) (by simp [go_sem]) O3.out A1 n1 c1 l1 (by simp [go_sem]) S3.out (by omega) H23.out.size ?_; intro v5 W5 hL; obtain ⟨A5, d5, rfl, hown5, hg5, hnw5⟩ := hL)
  have h25 : Below W2.heap.size W2 W5 := H23.out.trans ((Below.refl W2.heap.size W3).grown hg5 H23.out.size (fun k hk => (O3.out.lt k hk).1))
  rw [← cs_append] at hown5
  have I5 := Lib.hid (own_in hown5)
  have K5 := Lib.hid (K2.out.below K2.out.lt h25)
  have B5 := Lib.hid (B2.out.trans (h25.mono B2.out.size))
  have J5 := Lib.hid (I2.out.below h25)
  clear hg5 hnw5 h25 K2 B2 I2 O3 H23 S3 hown5
  refine (HP1.out A5 d5 W5 I5.out (HT.out.below B5.out)).mono ?_
  rintro e W6 ⟨rfl, hb6⟩
  have hba := hb6.alloc hb6.size (.cells #[.int .i64 mm, .int .i64 y, .int .i64 mo, .int .i64 dd, .int .i64 hh, .int .i64 mi, .int .i64 s, .int .u32 sum, .int .u64 p, .int .u64 z, .string (S nm), .int .u32 k, .int .u64 o] 29)
  have E6 := Lib.hid (Blk.new W6 29 #[.int .i64 mm, .int .i64 y, .int .i64 mo, .int .i64 dd, .int .i64 hh, .int .i64 mi, .int .i64 s, .int .u32 sum, .int .u64 p, .int .u64 z, .string (S nm), .int .u32 k, .int .u64 o])
  have K6 := Lib.hid (K5.out.below K5.out.lt hba)
  have B6 := Lib.hid (B5.out.trans (hba.mono B5.out.size))
  have J6 := Lib.hid (J5.out.below hba)
  clear hb6 hba K5 B5 J5 I5
  obtain ⟨e0, e1, e2, e3, e4, e5, e6, e7, e8, e9, e10, e11, e12⟩ := elC E6.out
  obtain ⟨f0, f1, f2, f3, f4, f5, f6, f7, f8, f9, f10, f11, f12⟩ := elC K6.out
  have hkr := HKR.out
  have hmod := HKM.out
  have ik2 : (kc : Int) ≤ (d2 : Int) := by omega
  have iN0 : ((N : Int) == 0) = false := by rw [beq_eq_false_iff_ne]; omega
  go_wp2_with fail
  refine (HP3.out (some ⟨g2, 0, none⟩) d2 _ ⟨J6.out.row.take (by omega), by omega, J6.out.max⟩ (HT.out.below B6.out)).mono ?_
  rintro e W7 ⟨rfl, hb7⟩
  have hba := hb7.alloc hb7.size (.cells #[.int .i64 0, .int .i64 0, .int .i64 0, .int .i64 0, .int .i64 0, .int .i64 0, .int .i64 0, .int .u32 0, .int .u64 0, .int .u64 0, .string ⟨#[]⟩, .int .u32 0, .int .u64 0] 29)
  have BB := Lib.hid (B6.out.trans (hba.mono B6.out.size))
  clear hb7 hba K6 B6 J6 E6 e0 e1 e2 e3 e4 e5 e6 e7 e8 e9 e10 e11 e12 f0 f1 f2 f3 f4 f5 f6 f7 f8 f9 f10 f11 f12 hkr hmod
  go_wp2_with fail
  refine (HP2.out _ (H2.out.below BB.out) (HT.out.below BB.out)).mono ?_
  rintro e W9 ⟨rfl, hb9⟩
  have hba := hb9.alloc hb9.size (.cells #[.int .i64 mm', .int .i64 y', .int .i64 mo', .int .i64 dd', .int .i64 hh', .int .i64 mi', .int .i64 s', .int .u32 sum', .int .u64 p', .int .u64 z', .string (S nm'), .int .u32 k', .int .u64 o'] 29)
  have qx := ld_rc (Blk.new W9 29 #[.int .i64 mm', .int .i64 y', .int .i64 mo', .int .i64 dd', .int .i64 hh', .int .i64 mi', .int .i64 s', .int .u32 sum', .int .u64 p', .int .u64 z', .string (S nm'), .int .u32 k', .int .u64 o']) rfl
  have BF := Lib.hid (BB.out.trans (hba.mono BB.out.size))
  clear hb9 hba
  go_wp2_with (with_reducible refine wpList_load_var _ _ (by with_unfolding_all rfl) qx ?_)
  refine (HW2.out _ (HT.out.below BF.out)).mono ?_
  rintro e W10 ⟨gx, dx, rfl, hownx, hb10⟩
  have BG := Lib.hid (BF.out.trans (hb10.mono BF.out.size))
  have RX := Lib.hid (Row.of_own hownx)
  have RY := Lib.hid ((H2.out.row.take (k := M) HMle.out).below BG.out)
  clear hownx hb10 BF
  go_wp2_with (go_at_call 12; refine (SameA_c _ _ _ _ _ _ _ _ _ RX.out RY.out).mono ?_; rw [HXE.out]; rintro e _ ⟨rfl, q, rfl⟩)
  go_ret
  exact ⟨rfl, below_drewN BG.out q⟩
theorem walk_CentralBack (w : World) (ht : TabM w) (h : Rc) (hw : RcW h) (hm : h.h.nm.length ≤ maxLen) (A1 : Option Addr) (n1 c1 : Nat) (l1 : List F) (h1 : RowIn w A1 n1 c1 l1) (A2 : Option Addr) (n2 c2 : Nat) (l2 : List F) (h2 : RowIn w A2 n2 c2 l2) (cut : Int) (hcut : (Lit.int .i64 cut).wf = true) :
    Calls Tryd.prog 5 #[rcV h, .slice A1 n1 c1, .slice A2 n2 c2, .int .i64 cut] w fun e w' => e = .returned (.bool true) ∧ Below w.heap.size w w' := by
  by_cases hb : h.h.nm.length ≤ 300 ∧ n1 ≤ 400 ∧ n2 ≤ 400
  · by_cases hK : chkH h.h = 0
    · have hX : 0 < (crX h).length := by unfold crX; rw [cdB_length]; omega
      have hpos : 0 ≤ cut % 1024 := by omega
      obtain ⟨kc, hkc, hkr⟩ : ∃ kc : Nat, kc < (crX h).length ∧ (cut % 1024).tmod ((crX h).length : Int) = (kc : Int) := by
        refine ⟨((cut % 1024) % ((crX h).length : Int)).toNat, ?_, ?_⟩
        · have := Int.emod_lt_of_pos (cut % 1024) (show (0 : Int) < ((crX h).length : Int) by omega)
          have := Int.emod_nonneg (cut % 1024) (show ((crX h).length : Int) ≠ 0 by omega)
          omega
        · rw [Int.tmod_eq_emod_of_nonneg hpos]
          have := Int.emod_nonneg (cut % 1024) (show ((crX h).length : Int) ≠ 0 by omega)
          omega
      by_cases hk4 : kc < 4
      · rcases prC_two l2 with hp | hp
        · exact back_yes_ok_s w ht h hw hm A1 n1 c1 l1 h1 A2 n2 c2 l2 h2 cut hcut hb hK kc hkc hkr hk4 hp
        · exact back_yes_err_s w ht h hw hm A1 n1 c1 l1 h1 A2 n2 c2 l2 h2 cut hcut hb hK kc hkc hkr hk4 hp
      · rcases prC_two l2 with hp | hp
        · exact back_yes_ok_l w ht h hw hm A1 n1 c1 l1 h1 A2 n2 c2 l2 h2 cut hcut hb hK kc hkc hkr hk4 hp
        · exact back_yes_err_l w ht h hw hm A1 n1 c1 l1 h1 A2 n2 c2 l2 h2 cut hcut hb hK kc hkc hkr hk4 hp
    · rcases prC_two l2 with hp | hp
      · exact back_not_ok w ht h hw hm A1 n1 c1 l1 h1 A2 n2 c2 l2 h2 cut hcut hb hK hp
      · exact back_not_err w ht h hw hm A1 n1 c1 l1 h1 A2 n2 c2 l2 h2 cut hcut hb hK hp
  · exact back_big w ht h hw hm A1 n1 c1 l1 h1 A2 n2 c2 l2 h2 cut hcut hb
end Go.Proofs.YtacllgglpjdobaaDoor
