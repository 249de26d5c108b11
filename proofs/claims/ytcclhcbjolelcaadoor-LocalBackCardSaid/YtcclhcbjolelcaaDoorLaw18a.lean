/-
  LAW 18: LocalWrites. No conditions (but that the table of months lies as the program's text lays it).
-/
import Derived.Test.YtcclhcbjolelcaaDoorLaw18
namespace Go.Proofs.YtcclhcbjolelcaaDoor
open Go.RowKit
set_option maxRecDepth 100000
set_option linter.unusedVariables false

theorem SameT_c (A B : Option Addr) (n m ca cb : Nat) (a : List F) (w : World) (ha : Row w A n a) (hb : Row w B m a) :
    Calls Tryd.prog 12 #[.slice A n ca, .slice B m cb] w fun e w' => e = .returned (.bool true) ∧ ∃ q, w' = w.drewN q := by
  have h := SameA_c A B n m ca cb a a w ha hb
  rw [decide_eq_true rfl] at h
  exact h
theorem szH_eq (h : Hd) (hn : h.nm.length ≤ 65535) : szH h = ((30 + h.nm.length + behN (grt h) : Nat) : Int) := by
  unfold szH behN
  rw [S_size]
  cases grt h
  · simp; omega
  · simp; omega
set_option maxHeartbeats 4000000 in
theorem walk_LocalWrites (w : World) (ht : TabM w) (h : Hd) (hw : HdW h) (hm : h.nm.length ≤ maxLen) :
    Calls Tryd.prog 3 #[hdV h] w fun e w' => e = .returned (.bool true) ∧ Below w.heap.size w w' := by
  have HT := Lib.hid ht
  have HK := Lib.hid (Blk.new w 27 (hdC h))
  have HBL := Lib.hid ((Below.refl w.heap.size w).alloc (Nat.le_refl _) (.cells (hdC h) 27))
  have HAL := Lib.hid alive18_c
  have hsS := S_size h.nm
  by_cases hb : 300 < h.nm.length
  · have ib : (300 : Int) < ((S h.nm).size : Int) := by omega
    clear hw ht hsS hb
    obtain ⟨mm, ⟨y, mo, dd, hh, mi, s⟩, sum, p, z, nm⟩ := h
    unfold hdV hdC at *
    dsimp only at *
    go_enter Tryd.func3, Tryd.ntmps3
    go_wp2_with fail
    refine (HAL.out _ (HT.out.alloc _)).mono ?_
    rintro e W1 ⟨rfl, hb1⟩
    have c10 := ((HK.out.below HK.out.lt hb1).cell 10).trans rfl
    go_wp2
    go_ret
    exact ⟨rfl, HBL.out.trans (hb1.mono HBL.out.size)⟩
  · have ib : ¬ (300 : Int) < ((S h.nm).size : Int) := by omega
    have HW := Lib.hid (Write_c h hw (by omega))
    have HR := Lib.hid (RWrite_c h hw (by omega))
    have HG := Lib.hid (RGreat_c h)
    have hz := szH_eq h (by omega)
    have HS := Lib.hid (SizeL_c h (by omega))
    rw [hz] at HS
    have hXL : chkH h = 0 → (wrX h).length = 30 + h.nm.length + behN (grt h) := fun e => by rw [show wrX h = hdX h from if_pos e]; exact hdB_length h _ _
    have HXL := Lib.hid hXL
    clear hw ht hz hXL hb
    generalize hnl : h.nm.length = nl at *
    generalize chkH h = K at *
    generalize wrX h = X at *
    generalize grt h = gr at *
    obtain ⟨mm, ⟨y, mo, dd, hh, mi, s⟩, sum, p, z, nm⟩ := h
    unfold hdV hdC at *
    dsimp only at *
    subst hsS
    clear hnl
    have hq : (S nm).size ≤ 300 := by omega
    obtain ⟨R, hR, hR2⟩ : ∃ R : Int, R = (if gr then 30 + ((S nm).size : Int) + 20 else 30 + ((S nm).size : Int)) ∧ ((30 + (S nm).size + behN gr : Nat) : Int) = R := ⟨_, rfl, by unfold behN; cases gr <;> simp⟩
    rw [hR2] at HS
    have HR2 := Lib.hid hR2
    clear hR2
    have w1 : IntKind.i64.wrap ((30 : Int) + ((S nm).size : Int)) = (30 : Int) + ((S nm).size : Int) := IntWalk.i64_in _ (by omega)
    have w2 : IntKind.i64.wrap ((30 : Int) + ((S nm).size : Int) + 20) = (30 : Int) + ((S nm).size : Int) + 20 := IntWalk.i64_in _ (by omega)
    go_enter Tryd.func3, Tryd.ntmps3
    go_wp2_with fail
    refine (HAL.out _ (HT.out.alloc _)).mono ?_
    rintro e W1 ⟨rfl, hb1⟩
    have K1 := Lib.hid (HK.out.below HK.out.lt hb1)
    have B1 := Lib.hid (HBL.out.trans (hb1.mono HBL.out.size))
    clear hb1 HK HBL HAL
    have c10 := (K1.out.cell 10).trans rfl
    have q1 := ld_hd K1.out rfl
    go_wp2_with (with_reducible refine wpList_load_var _ _ (by with_unfolding_all rfl) q1 ?_)
    refine (HW.out _ (HT.out.below B1.out)).mono ?_
    rintro e W2 ⟨A2, N2, d2, rfl, hown2, hb2⟩
    have K2 := Lib.hid (K1.out.below K1.out.lt hb2)
    have B2 := Lib.hid (B1.out.trans (hb2.mono B1.out.size))
    have R2 := Lib.hid (Row.of_own hown2)
    have hNX : X.length = N2 := own_len hown2
    clear hb2 K1 B1 hown2 c10 q1
    have q2 := ld_hd K2.out rfl
    go_wp2_with (with_reducible refine wpList_load_var _ _ (by with_unfolding_all rfl) q2 ?_)
    refine (HR.out _).mono ?_
    rintro e W3 ⟨A3, N3, d3, rfl, hown3, hb3⟩
    have K3 := Lib.hid (K2.out.below K2.out.lt hb3)
    have B3 := Lib.hid (B2.out.trans (hb3.mono B2.out.size))
    have R3 := Lib.hid (R2.out.below hb3)
    have S3 := Lib.hid (Row.of_own hown3)
    clear hb3 K2 B2 hown3 q2 R2
    have q3 := ld_hd K3.out rfl
    have c10 := (K3.out.cell 10).trans rfl
    go_wp2_with (with_reducible refine wpList_load_var _ _ (by with_unfolding_all rfl) q3 ?_)
    refine (HG.out _).mono ?_
    rintro e W4 ⟨rfl, hb4⟩
    have K4 := Lib.hid (K3.out.below K3.out.lt hb4)
    have B4 := Lib.hid (B3.out.trans (hb4.mono B3.out.size))
    have R4 := Lib.hid (R3.out.below hb4)
    have S4 := Lib.hid (S3.out.below hb4)
    clear hb4 K3 B3 q3 R3 S3 c10
    obtain ⟨e0, e1, e2, e3, e4, e5, e6, e7, e8, e9, e10⟩ := elv K4.out
    have hkN : Hid (K = 0 → (N2 : Int) = R) := fun e => by
      have h1 := HXL.out e
      have h2 := HR2.out
      rw [← hNX, h1]
      exact h2
    have HNX := Lib.hid hNX
    clear hNX
    obtain ⟨kb, hkb⟩ : ∃ kb : Bool, (K != 0) = kb := ⟨_, rfl⟩
    have hNR : kb = false → ((N2 : Int) == R) = true := fun e => by
      rw [beq_iff_eq]
      refine hkN.out ?_
      rw [e] at hkb
      simpa using hkb
    have HNR := Lib.hid hNR
    clear hNR
    cases gr
    all_goals
      simp only [if_true, if_false, Bool.false_eq_true] at hR
      subst hR
      cases kb
      case' false => have hNR := HNR.out rfl
      all_goals
        go_wp2_with (first
          | (go_at_call 12; refine (SameT_c _ _ _ _ _ _ _ _ R4.out S4.out).mono ?_; rintro e _ ⟨rfl, q, rfl⟩)
          | (go_at_call 13; refine (HS.out _).mono ?_; rintro e W5 ⟨rfl, hb5⟩))
        go_wp2
        go_ret
        exact ⟨rfl, (below_drewN B4.out q).trans (hb5.mono (below_drewN B4.out q).size)⟩
end Go.Proofs.YtcclhcbjolelcaaDoor
