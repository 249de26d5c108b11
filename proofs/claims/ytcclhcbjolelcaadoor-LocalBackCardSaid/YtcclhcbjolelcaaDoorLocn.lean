/-
  LOCAL HEADERS: Parse. No conditions (but for how many bytes there are, and the table of months).
-/
import Derived.Test.YtcclhcbjolelcaaDoorLocm
import Derived.Deep.RegionWith
namespace Go.Proofs.YtcclhcbjolelcaaDoor
open Go.RowKit
set_option maxRecDepth 100000
set_option linter.unusedVariables false

theorem rdH_take (l : List F) (n : Nat) (h1 : 30 ≤ n) (h2 : n = tolN l) : rdH (l.take n) = rdH l := by
  have ht : tolN l = 30 + atL l 26 2 + atL l 28 2 := rfl
  have e1 : nmOf (((l.take n).drop 30).take (atL l 26 2)) = nmOf ((l.drop 30).take (atL l 26 2)) := by
    have : ((l.take n).drop 30).take (atL l 26 2) = (l.drop 30).take (atL l 26 2) := by rw [List.drop_take, List.take_take, Nat.min_eq_left (by omega)]
    rw [this]
  have f8 := atL_take l n 8 2 (by omega)
  have f14 := atL_take l n 14 4 (by omega)
  have f18 := atL_take l n 18 4 (by omega)
  have f22 := atL_take l n 22 4 (by omega)
  have f26 := atL_take l n 26 2 (by omega)
  have f28 := atL_take l n 28 2 (by omega)
  unfold rdH
  by_cases hg : atL l 28 2 = 20
  · have f42 := atL_take l n (42 + atL l 26 2) 8 (by omega)
    have f34 := atL_take l n (34 + atL l 26 2) 8 (by omega)
    simp only [f8, f14, f26, f28, if_pos hg, f42, f34, e1]
  · simp only [f8, f14, f26, f28, f18, f22, if_neg hg, e1]
theorem tolN_take (l : List F) (n : Nat) (h1 : 30 ≤ n) : tolN (l.take n) = tolN l := by
  unfold tolN
  rw [atL_take _ _ _ _ (by omega), atL_take _ _ _ _ (by omega)]
theorem rdH_ex (l : List F) : ∃ (m sm pk sz : Nat) (nm : List UInt8), rdH l = ⟨(m : Int), st0, sm, pk, sz, nm⟩ ∧ m < 65536 ∧ HdW ⟨(m : Int), st0, sm, pk, sz, nm⟩ ∧ nm.length ≤ 65535 := by
  have hw := rdH_wf l st0 ⟨by decide, by decide, by decide, by decide, by decide, by decide⟩
  refine ⟨atL l 8 2, _, _, _, _, rfl, atL_lt2 l 8, hw, ?_⟩
  have := atL_lt2 l 26
  show ((l.drop 30).take (atL l 26 2)).length ≤ 65535
  rw [List.length_take]
  omega
def z11 : Array Value := #[.int .i64 0, .int .i64 0, .int .i64 0, .int .i64 0, .int .i64 0, .int .i64 0, .int .i64 0, .int .u32 0, .int .u64 0, .int .u64 0, .string ⟨#[]⟩]
theorem hd0_z : hdV hd0 = .agg z11 := by
  have e : S [] = ⟨#[]⟩ := rfl
  unfold hdV hdC hd0 z11
  rw [e]
  rfl
set_option maxHeartbeats 4000000 in
theorem Parse_c (A : Option Addr) (n c : Nat) (l : List F) (w : World) (h : RowIn w A n c l) (hn : n ≤ 1000000) (ht : TabM w) :
    Calls Tryd.prog 14 #[.slice A n c] w fun e w' => e = .returned (.tuple #[hdV (prV l).1, .int .i64 ((prV l).2.1 : Nat), .int .i64 (prV l).2.2]) ∧ Below w.heap.size w w' := by
  obtain ⟨P, hP⟩ : ∃ P, P = prV l := ⟨_, rfl⟩
  rw [← hP]
  have HP := Lib.hid hP
  have H := Lib.hid h
  have HT := Lib.hid ht
  have hle := h.le
  have hlen : l.length = n := h.row.len
  clear h ht hP
  have HK := Lib.hid (Blk.new w 27 z11)
  have HBL := Lib.hid ((Below.refl w.heap.size w).alloc (Nat.le_refl _) (.cells z11 27))
  go_enter Tryd.func14, Tryd.ntmps14
  go_wp2_with fail
  refine (length_c A n c l _ (H.out.below ((Below.refl _ _).alloc (Nat.le_refl _) _)) hn).mono ?_
  rintro e W1 ⟨rfl, hb1⟩
  have HK1 : Hid (Blk W1 w.heap.size 27 z11) := HK.out.below HK.out.lt hb1
  have HB1 : Hid (Below w.heap.size w W1) := HBL.out.trans (hb1.mono HBL.out.size)
  clear HK HBL hb1
  by_cases h1 : (lnV l).2 = 0
  · obtain ⟨hN1, hN2, hN3, hN4⟩ := lnV_le h1
    have hPV : P = if hdB (rdH l) (atL l 12 2) (atL l 10 2) ≠ l.take (lnV l).1 then (hd0, 0, 21) else if mthE (rdH l).m ≠ 0 then (hd0, 0, 43) else if ¬ okP (unSt (atL l 12 2) (atL l 10 2)) then (hd0, 0, 41) else if nokE (rdH l).nm ≠ 0 then (hd0, 0, nokE (rdH l).nm) else (mkT (rdH l) (unSt (atL l 12 2) (atL l 10 2)), (lnV l).1, 0) := by
      rw [HP.out]
      unfold prV
      rw [if_neg (fun e => e h1)]
    have e12 : atL (l.take (lnV l).1) 12 2 = atL l 12 2 := atL_take _ _ _ _ (by omega)
    have e10 : atL (l.take (lnV l).1) 10 2 = atL l 10 2 := atL_take _ _ _ _ (by omega)
    have eR := rdH_take l (lnV l).1 hN2 hN3
    have eT := tolN_take l (lnV l).1 hN2
    rw [← hN3] at eT
    obtain ⟨m, sm, pk, sz, nm, hR, hm, hw, hnn⟩ := rdH_ex l
    have bd := atL_lt2 l 12
    have bt := atL_lt2 l 10
    rw [hR] at hPV eR
    have HPV := Lib.hid hPV
    have E12 := Lib.hid e12
    have E10 := Lib.hid e10
    have ER := Lib.hid eR
    have ET := Lib.hid eT
    have b1 : ((lnV l).2 != 0) = false := by rw [h1]; rfl
    clear hPV e12 e10 eR eT hR hN3 hN4 HP
    generalize atL l 12 2 = d at *
    generalize atL l 10 2 = t at *
    generalize (lnV l).2 = k at *
    generalize (lnV l).1 = N at *
    have i1 : (N : Int) ≤ (c : Int) := by omega
    have HL := Lib.hid (lay_c ⟨(m : Int), st0, sm, pk, sz, nm⟩ m d t rfl hm bd bt hw hnn)
    have HM := Lib.hid (checkMethod_c (m : Int))
    have HU := Lib.hid (Unpack_c d t bd bt)
    have HN := Lib.hid (Check_c nm (by omega))
    have HR1 := Lib.hid ((H.out.row.take (k := N) (by omega)).below HB1.out)
    go_wp2_with fail
    refine (read_c A N c (l.take N) _ HR1.out (by rw [ET.out]) (by omega)).mono ?_
    rintro e W2 ⟨rfl, hb2⟩
    rw [ER.out, E12.out, E10.out]
    have HK2 := Lib.hid (HK1.out.below HK1.out.lt hb2)
    have HB2 := Lib.hid (HB1.out.trans (hb2.mono HB1.out.size))
    clear HK1 HB1
    unfold hdV hdC st0
    dsimp only
    have HKz := Lib.hid HK2
    have HKR := Lib.hid (Blk.new W2 27 #[.int .i64 (m : Nat), .int .i64 0, .int .i64 0, .int .i64 0, .int .i64 0, .int .i64 0, .int .i64 0, .int .u32 sm, .int .u64 pk, .int .u64 sz, .string (S nm)])
    have HBa := Lib.hid (HB2.out.alloc HB2.out.size (.cells #[.int .i64 (m : Nat), .int .i64 0, .int .i64 0, .int .i64 0, .int .i64 0, .int .i64 0, .int .i64 0, .int .u32 sm, .int .u64 pk, .int .u64 sz, .string (S nm)] 27))
    unfold hdV hdC st0 at HL
    dsimp only at HL
    have HRa := Lib.hid ((HR1.out.below hb2).alloc (.cells #[.int .i64 (m : Nat), .int .i64 0, .int .i64 0, .int .i64 0, .int .i64 0, .int .i64 0, .int .i64 0, .int .u32 sm, .int .u64 pk, .int .u64 sz, .string (S nm)] 27))
    have HKa := Lib.hid (HK2.out.below HK2.out.lt ((Below.refl _ _).alloc (Nat.le_refl _) (.cells #[.int .i64 (m : Nat), .int .i64 0, .int .i64 0, .int .i64 0, .int .i64 0, .int .i64 0, .int .i64 0, .int .u32 sm, .int .u64 pk, .int .u64 sz, .string (S nm)] 27)))
    have HSZ : Hid (w.heap.size < W2.heap.size) := HKz.out.lt
    clear hb2 HK2 HKz HB2
    go_wp2_with fail
    generalize hX : hdB (⟨(m : Int), ⟨0, 0, 0, 0, 0, 0⟩, sm, pk, sz, nm⟩ : Hd) d t = X at *
    have HX := Lib.hid hX
    clear hX
    go_region_law (first
      | (go_simp
         go_at_call 21
         refine (HL.out _).mono ?_
         rintro e w3 ⟨A3, N3, c3, rfl, hown3, hb3⟩)
      | (go_simp
         go_at_call 27
         refine (EqualL_c _ _ _ _ _ _ _ _ _ (Row.of_own hown3) (by first | exact (HRa.out.drew).below hb3 | exact HRa.out.below hb3)).mono ?_
         rintro e _ ⟨rfl, rfl⟩))
    clear hown3
    have HKz : Hid (Blk w3 w.heap.size 27 z11) := by first | exact HKa.out.below HKa.out.lt hb3 | exact HKa.out.drew.below HKa.out.lt hb3
    have HK3 : Hid (Blk w3 W2.heap.size 27 #[.int .i64 (m : Nat), .int .i64 0, .int .i64 0, .int .i64 0, .int .i64 0, .int .i64 0, .int .i64 0, .int .u32 sm, .int .u64 pk, .int .u64 sz, .string (S nm)]) := by first | exact HKR.out.below HKR.out.lt hb3 | exact HKR.out.drew.below HKR.out.lt hb3
    have HB3 : Hid (Below w.heap.size w w3) := by first | exact HBa.out.trans (hb3.mono HBa.out.size) | exact (below_drewL HBa.out).trans (hb3.mono HBa.out.size)
    clear HKa HKR HBa HRa hb3 HL HR1
    generalize W2.heap.size = g7 at *
    have hg7 : w.heap.size < g7 := HSZ.out
    generalize hbq : decide (X = l.take N) = bq at *
    have HBQ := Lib.hid hbq
    clear hbq
    cases bq
    case true =>
      have hE : Hid (X = l.take N) := @of_decide_eq_true (X = l.take N) _ HBQ.out
      have c0 := (HK3.out.cell 0).trans rfl
      go_wp2_with fail
      refine (HM.out _).mono ?_
      rintro e _ ⟨rfl, rfl⟩
      by_cases h3 : mthE (m : Int) = 0
      · have b3 : (mthE (m : Int) != 0) = false := by rw [h3]; rfl
        generalize mthE (m : Int) = k3 at *
        go_wp2_with fail
        refine (HU.out _ (HT.out.below HB3.out)).mono ?_
        rintro e W4 ⟨rfl, hb4⟩
        have HK4 := Lib.hid (HK3.out.below HK3.out.lt hb4)
        have HZ4 := Lib.hid (HKz.out.below HKz.out.lt hb4)
        have HB4 := Lib.hid (HB3.out.trans (hb4.mono HB3.out.size))
        clear hb4 c0 HKz HK3 HB3
        by_cases h4 : okP (unSt d t)
        · rw [show unV d t = .tuple #[stV (unSt d t), .int .i64 0] from if_pos h4]
          obtain ⟨U, hU⟩ : ∃ U, U = unSt d t := ⟨_, rfl⟩
          rw [← hU]
          have HUU := Lib.hid hU
          clear hU
          obtain ⟨y, mo, dd, hh, mi, s⟩ := U
          unfold stV
          dsimp only
          have t2 := st_stpA HK4.out y mo dd hh mi s
          have HK5 := Lib.hid (HK4.out.setRow #[.int .i64 (m : Nat), .int .i64 y, .int .i64 mo, .int .i64 dd, .int .i64 hh, .int .i64 mi, .int .i64 s, .int .u32 sm, .int .u64 pk, .int .u64 sz, .string (S nm)])
          have HZ5 := Lib.hid (HZ4.out.setRowO (g := g7) (by omega) #[.int .i64 (m : Nat), .int .i64 y, .int .i64 mo, .int .i64 dd, .int .i64 hh, .int .i64 mi, .int .i64 s, .int .u32 sm, .int .u64 pk, .int .u64 sz, .string (S nm)])
          have HB5 := Lib.hid (below_setRowS HB4.out (show w.heap.size ≤ g7 by omega) #[.int .i64 (m : Nat), .int .i64 y, .int .i64 mo, .int .i64 dd, .int .i64 hh, .int .i64 mi, .int .i64 s, .int .u32 sm, .int .u64 pk, .int .u64 sz, .string (S nm)])
          have c10 := (HK5.out.cell 10).trans rfl
          clear HK4 HZ4 HB4
          go_wp2_with (with_reducible refine wpList_store_at _ _ _ (by with_unfolding_all rfl) (by with_unfolding_all rfl) t2 ?_)
          refine (HN.out _).mono ?_
          rintro e W6 ⟨rfl, hb6⟩
          have HK6 := Lib.hid (HK5.out.below HK5.out.lt hb6)
          have HZ6 := Lib.hid (HZ5.out.below HZ5.out.lt hb6)
          have HB6 := Lib.hid (HB5.out.trans (hb6.mono HB5.out.size))
          clear HK5 HZ5 HB5 hb6 c10 t2
          by_cases h5 : nokE nm = 0
          · have b5 : (nokE nm != 0) = false := by rw [h5]; rfl
            have hv : P = (mkT ⟨(m : Int), st0, sm, pk, sz, nm⟩ ⟨y, mo, dd, hh, mi, s⟩, N, 0) := by
              rw [HPV.out, if_neg (fun e => e (HX.out.trans hE.out)), if_neg (fun e => e h3), if_neg (fun e => e h4), if_neg (fun e => e h5), ← HUU.out]
            generalize nokE nm = k5 at *
            have q1 := ld_hd HK6.out rfl
            have t2 := st_hd HZ6.out rfl #[.int .i64 (m : Nat), .int .i64 y, .int .i64 mo, .int .i64 dd, .int .i64 hh, .int .i64 mi, .int .i64 s, .int .u32 sm, .int .u64 pk, .int .u64 sz, .string (S nm)] rfl (by simp [Value.oneCell'])
            have t3 := ld_hd (HZ6.out.setRow #[.int .i64 (m : Nat), .int .i64 y, .int .i64 mo, .int .i64 dd, .int .i64 hh, .int .i64 mi, .int .i64 s, .int .u32 sm, .int .u64 pk, .int .u64 sz, .string (S nm)]) rfl
            have HB9 := Lib.hid (below_setRowS HB6.out (Nat.le_refl _) #[.int .i64 (m : Nat), .int .i64 y, .int .i64 mo, .int .i64 dd, .int .i64 hh, .int .i64 mi, .int .i64 s, .int .u32 sm, .int .u64 pk, .int .u64 sz, .string (S nm)])
            go_wp2_with (first
              | (with_reducible refine wpList_load_var _ _ (by with_unfolding_all rfl) q1 ?_)
              | (with_reducible refine wpList_store_var _ _ _ (by with_unfolding_all rfl) (by with_unfolding_all rfl) t2 ?_))
            refine bodyPost_ret (v := .tuple #[.agg #[.int .i64 (m : Nat), .int .i64 y, .int .i64 mo, .int .i64 dd, .int .i64 hh, .int .i64 mi, .int .i64 s, .int .u32 sm, .int .u64 pk, .int .u64 sz, .string (S nm)], .int .i64 (N : Nat), .int .i64 0]) ?_ rfl ⟨by rw [hv]; rfl, HB9.out⟩
            rw [results_cell_tt rfl]
            simp [asAddr, Result.andThen, t3]
          · have b5 : (nokE nm != 0) = true := by rw [bne_iff_ne]; exact h5
            have hv : P = (hd0, 0, nokE nm) := by
              rw [HPV.out, if_neg (fun e => e (HX.out.trans hE.out)), if_neg (fun e => e h3), if_neg (fun e => e h4), if_pos h5]
            generalize nokE nm = k5 at *
            have t2 := st_hd HZ6.out rfl z11 rfl (by simp [z11, Value.oneCell'])
            have t3 := ld_hd (HZ6.out.setRow z11) rfl
            have HB9 := Lib.hid (below_setRowS HB6.out (Nat.le_refl _) z11)
            go_wp2_with (with_reducible refine wpList_store_var _ _ _ (by with_unfolding_all rfl) (by with_unfolding_all rfl) t2 ?_)
            refine bodyPost_ret (v := .tuple #[.agg z11, .int .i64 0, .int .i64 k5]) ?_ rfl ⟨by rw [hv, hd0_z]; rfl, HB9.out⟩
            rw [results_cell_tt rfl]
            simp [asAddr, Result.andThen, t3]
        · have hv : P = (hd0, 0, 41) := by
            rw [HPV.out, if_neg (fun e => e (HX.out.trans hE.out)), if_neg (fun e => e h3), if_pos h4]
          rw [show unV d t = .tuple #[stV st0, .int .i64 41] from if_neg h4]
          unfold stV st0
          dsimp only
          have t1 := st_stpA HK4.out 0 0 0 0 0 0
          have HZ5 := Lib.hid (HZ4.out.setRowO (g := g7) (by omega) #[.int .i64 (m : Nat), .int .i64 0, .int .i64 0, .int .i64 0, .int .i64 0, .int .i64 0, .int .i64 0, .int .u32 sm, .int .u64 pk, .int .u64 sz, .string (S nm)])
          have HB5 := Lib.hid (below_setRowS HB4.out (show w.heap.size ≤ g7 by omega) #[.int .i64 (m : Nat), .int .i64 0, .int .i64 0, .int .i64 0, .int .i64 0, .int .i64 0, .int .i64 0, .int .u32 sm, .int .u64 pk, .int .u64 sz, .string (S nm)])
          clear HK4 HZ4 HB4
          have t2 := st_hd HZ5.out rfl z11 rfl (by simp [z11, Value.oneCell'])
          have t3 := ld_hd (HZ5.out.setRow z11) rfl
          have HB9 := Lib.hid (below_setRowS HB5.out (Nat.le_refl _) z11)
          go_wp2_with (first | (with_reducible refine wpList_store_at _ _ _ (by with_unfolding_all rfl) (by with_unfolding_all rfl) t1 ?_) | with_reducible refine wpList_store_var _ _ _ (by with_unfolding_all rfl) (by with_unfolding_all rfl) t2 ?_)
          refine bodyPost_ret (v := .tuple #[.agg z11, .int .i64 0, .int .i64 41]) ?_ rfl ⟨by rw [hv, hd0_z]; rfl, HB9.out⟩
          rw [results_cell_tt rfl]
          simp [asAddr, Result.andThen, t3]
      · have b3 : (mthE (m : Int) != 0) = true := by rw [bne_iff_ne]; exact h3
        have hv : P = (hd0, 0, mthE (m : Int)) := by
          rw [HPV.out, if_neg (fun e => e (HX.out.trans hE.out)), if_pos h3]
          have : mthE (m : Int) = 43 := by unfold mthE at h3 ⊢; split <;> simp_all
          rw [this]
        generalize mthE (m : Int) = k3 at *
        have t2 := st_hd HKz.out rfl z11 rfl (by simp [z11, Value.oneCell'])
        have t3 := ld_hd (HKz.out.setRow z11) rfl
        have HB9 := Lib.hid (below_setRowS HB3.out (Nat.le_refl _) z11)
        go_wp2_with (with_reducible refine wpList_store_var _ _ _ (by with_unfolding_all rfl) (by with_unfolding_all rfl) t2 ?_)
        refine bodyPost_ret (v := .tuple #[.agg z11, .int .i64 0, .int .i64 k3]) ?_ rfl ⟨by rw [hv, hd0_z]; rfl, HB9.out⟩
        rw [results_cell_tt rfl]
        simp [asAddr, Result.andThen, t3]
    case false =>
      have hv : P = (hd0, 0, 21) := by
        have hne : hdB ⟨(m : Int), st0, sm, pk, sz, nm⟩ d t ≠ l.take N := fun e => (of_decide_eq_false HBQ.out) (HX.out.symm.trans e)
        rw [HPV.out, if_pos hne]
      have t2 := st_hd HKz.out rfl z11 rfl (by simp [z11, Value.oneCell'])
      have t3 := ld_hd (HKz.out.setRow z11) rfl
      have HB9 := Lib.hid (below_setRowS HB3.out (Nat.le_refl _) z11)
      go_wp2_with (with_reducible refine wpList_store_var _ _ _ (by with_unfolding_all rfl) (by with_unfolding_all rfl) t2 ?_)
      refine bodyPost_ret (v := .tuple #[.agg z11, .int .i64 0, .int .i64 21]) ?_ rfl ⟨by rw [hv, hd0_z]; rfl, HB9.out⟩
      rw [results_cell_tt rfl]
      simp [asAddr, Result.andThen, t3]
  · have b1 : ((lnV l).2 != 0) = true := by rw [bne_iff_ne]; exact h1
    have hPV : P = (hd0, 0, (lnV l).2) := by
      rw [HP.out]
      unfold prV
      rw [if_pos h1]
    have HPV := Lib.hid hPV
    clear hPV HP h1
    generalize (lnV l).2 = k at *
    have t2 := st_hd HK1.out rfl z11 rfl (by simp [z11, Value.oneCell'])
    have t3 := ld_hd (HK1.out.setRow z11) rfl
    have HB9 := Lib.hid (below_setRowS HB1.out (Nat.le_refl _) z11)
    go_wp2_with (with_reducible refine wpList_store_var _ _ _ (by with_unfolding_all rfl) (by with_unfolding_all rfl) t2 ?_)
    refine bodyPost_ret (v := .tuple #[.agg z11, .int .i64 0, .int .i64 k]) ?_ rfl ⟨by rw [HPV.out, hd0_z]; rfl, HB9.out⟩
    rw [results_cell_tt rfl]
    simp [asAddr, Result.andThen, t3]
end Go.Proofs.YtcclhcbjolelcaaDoor
