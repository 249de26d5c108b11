/-
  RECORDS OF THE DIRECTORY: Parse (WRITTEN by wip/gen19n.py). No conditions (but for how many bytes there are, and the table of months).
-/
import Derived.Test.YtacllgglpjdobaaDoorCnm
import Derived.Test.YtacllgglpjdobaaDoorCnl
import Derived.Test.YtacllgglpjdobaaDoorCnh
import Derived.Deep.RegionWith
import Derived.Deep.RegionLaw
namespace Go.Proofs.YtacllgglpjdobaaDoor
open Go.RowKit
set_option maxRecDepth 100000
set_option linter.unusedVariables false

theorem gs_take (l : List F) (n : Nat) (h : 46 ≤ n) : gS (l.take n) = gS l ∧ gP (l.take n) = gP l ∧ gO (l.take n) = gO l ∧ gD (l.take n) = gD l := by
  unfold gS gP gO gD
  rw [atL_take l n 24 4 (by omega), atL_take l n 20 4 (by omega), atL_take l n 42 4 (by omega), atL_take l n 34 2 (by omega)]
  exact ⟨rfl, rfl, rfl, rfl⟩
theorem if_eqC {g : Bool} {a b x : Nat} (h : g = true → a = b) : (if g = true then a else x) = (if g = true then b else x) := by
  cases g
  · rfl
  · rw [if_pos rfl, if_pos rfl]; exact h rfl
theorem rdR_take (l : List F) (e : atL l 30 2 = ndL l) : rdR (l.take (tolC l)) = rdR l := by
  have h46 : 46 ≤ tolC l := by unfold tolC; omega
  have ht : tolC l = 46 + atL l 28 2 + atL l 30 2 := rfl
  obtain ⟨g1, g2, g3, g4⟩ := gs_take l (tolC l) h46
  have e28 := atL_take l (tolC l) 28 2 (by omega)
  have k1 : f1 (l.take (tolC l)) = f1 l := by unfold f1; rw [e28]
  have k2 : f2 (l.take (tolC l)) = f2 l := by unfold f2; rw [k1, g1]
  have k3 : f3 (l.take (tolC l)) = f3 l := by unfold f3; rw [k2, g2]
  have k4 : f4 (l.take (tolC l)) = f4 l := by unfold f4; rw [k3, g3]
  have en : ((l.take (tolC l)).drop 46).take (atL l 28 2) = (l.drop 46).take (atL l 28 2) := by rw [List.drop_take, List.take_take, Nat.min_eq_left (by omega)]
  have e8 : q8 true = 8 := rfl
  have e4 : q4 true = 4 := rfl
  have x1 : gS l = true → atL (l.take (tolC l)) (f1 l) 8 = atL l (f1 l) 8 := fun g => atL_take _ _ _ _ (by have := nd_fits rfl e (nd_S g); rw [g, e8] at this; omega)
  have x2 : gP l = true → atL (l.take (tolC l)) (f2 l) 8 = atL l (f2 l) 8 := fun g => atL_take _ _ _ _ (by have := nd_fits rfl e (nd_P g); rw [g, e8] at this; unfold f2; omega)
  have x3 : gO l = true → atL (l.take (tolC l)) (f3 l) 8 = atL l (f3 l) 8 := fun g => atL_take _ _ _ _ (by have := nd_fits rfl e (nd_O g); rw [g, e8] at this; unfold f3 f2; omega)
  have x4 : gD l = true → atL (l.take (tolC l)) (f4 l) 4 = atL l (f4 l) 4 := fun g => atL_take _ _ _ _ (by have := nd_fits rfl e (nd_D g); rw [g, e4] at this; unfold f4 f3 f2; omega)
  unfold rdR
  rw [g1, g2, g3, g4, k1, k2, k3, k4, e28, en, atL_take l _ 10 2 (by omega), atL_take l _ 16 4 (by omega), atL_take l _ 20 4 (by omega), atL_take l _ 24 4 (by omega), atL_take l _ 34 2 (by omega), atL_take l _ 42 4 (by omega), if_eqC x1, if_eqC x2, if_eqC x3, if_eqC x4]
theorem tolC_take (l : List F) : tolC (l.take (tolC l)) = tolC l := by
  have h : tolC l = 46 + atL l 28 2 + atL l 30 2 := rfl
  have e1 := atL_take l (tolC l) 28 2 (by omega)
  have e2 := atL_take l (tolC l) 30 2 (by omega)
  show 46 + atL (l.take (tolC l)) 28 2 + atL (l.take (tolC l)) 30 2 = _
  rw [e1, e2]
  rfl
/-- read, of what stands at the beginning -/
theorem readT_c (A : Option Addr) (n c : Nat) (l : List F) (w : World) (h : RowIn w A n c l) (h1 : (lnW l).2 = 0) (hm : n ≤ 1000000) :
    Calls Tryd.prog 30 #[.slice A (lnW l).1 c] w fun e w' => ∃ R : Rc, e = .returned (.tuple #[rcV R, .int .u16 (atL l 14 2 : Nat), .int .u16 (atL l 12 2 : Nat)]) ∧ RcW R ∧ R.h.m = (atL l 10 2 : Nat) ∧ R.h.nm = nmOf ((l.drop 46).take (atL l 28 2)) ∧ R.h.t = st0 ∧ (atL l 30 2 = ndL l → R = rdR l) ∧ Below w.heap.size w w' := by
  obtain ⟨hN1, hN2, hN3, hN4⟩ := lnW_le h1
  have hlen := h.row.len
  rw [hN3] at hN1 hN2 ⊢
  have ht : tolC l = 46 + atL l 28 2 + atL l 30 2 := rfl
  have en : ((l.take (tolC l)).drop 46).take (atL l 28 2) = (l.drop 46).take (atL l 28 2) := by rw [List.drop_take, List.take_take, Nat.min_eq_left (by omega)]
  refine (readC_c A (tolC l) c (l.take (tolC l)) w (h.row.take (k := tolC l) (by omega)) (tolC_take l).symm (by omega)).mono ?_
  rintro e w' ⟨R, rfl, hW, hRm, hRn, hRt, hRe, hb⟩
  rw [atL_take l _ 14 2 (by omega), atL_take l _ 12 2 (by omega)]
  rw [atL_take l _ 10 2 (by omega)] at hRm
  rw [atL_take l _ 28 2 (by omega), en] at hRn
  rw [atL_take l _ 30 2 (by omega), ndL_take l _ hN2] at hRe
  exact ⟨R, rfl, hW, hRm, hRn, hRt, fun e => (hRe e).trans (rdR_take l e), hb⟩
/-- whatever is read, if it is as it should be where there are bytes enough -/
theorem prC_R (l : List F) (R : Rc) (h1 : (lnW l).2 = 0) (hR : atL l 30 2 = ndL l → R = rdR l) :
    (cdB R (atL l 10 2) (atL l 12 2) (atL l 14 2) = l.take (lnW l).1 → prC l = if mthE R.h.m ≠ 0 then (rc0, 0, 43) else if ¬ okP (unSt (atL l 14 2) (atL l 12 2)) then (rc0, 0, 41) else if nokE R.h.nm ≠ 0 then (rc0, 0, nokE R.h.nm) else (mkC R (unSt (atL l 14 2) (atL l 12 2)), (lnW l).1, 0)) ∧
    (cdB R (atL l 10 2) (atL l 12 2) (atL l 14 2) ≠ l.take (lnW l).1 → prC l = (rc0, 0, 21)) := by
  obtain ⟨hN1, hN2, hN3, hN4⟩ := lnW_le h1
  constructor
  · intro e
    have hr := hR (cd_need hN2 e).symm
    subst hr
    unfold prC
    rw [if_neg (fun x => x h1), if_neg (fun x => x e)]
  · intro e
    unfold prC
    rw [if_neg (fun x => x h1), if_pos (fun e2 => e (by
      have hr := hR (cd_need hN2 e2).symm
      rw [hr]
      exact e2))]
def z13 : Array Value := #[.int .i64 0, .int .i64 0, .int .i64 0, .int .i64 0, .int .i64 0, .int .i64 0, .int .i64 0, .int .u32 0, .int .u64 0, .int .u64 0, .string ⟨#[]⟩, .int .u32 0, .int .u64 0]
theorem rc0_z : rcV rc0 = .agg z13 := by
  have e : S [] = ⟨#[]⟩ := rfl
  unfold rcV rcC rc0 hd0 z13
  rw [e]
  rfl
set_option maxHeartbeats 4000000 in
theorem ParseC_c (A : Option Addr) (n c : Nat) (l : List F) (w : World) (h : RowIn w A n c l) (hn : n ≤ 1000000) (ht : TabM w) :
    Calls Tryd.prog 15 #[.slice A n c] w fun e w' => e = .returned (.tuple #[rcV (prC l).1, .int .i64 ((prC l).2.1 : Nat), .int .i64 (prC l).2.2]) ∧ Below w.heap.size w w' := by
  obtain ⟨P, hP⟩ : ∃ P, P = prC l := ⟨_, rfl⟩
  rw [← hP]
  have HP := Lib.hid hP
  have H := Lib.hid h
  have HT := Lib.hid ht
  have hle := h.le
  have hlen : l.length = n := h.row.len
  clear h ht hP
  have HK := Lib.hid (Blk.new w 29 z13)
  have HBL := Lib.hid ((Below.refl w.heap.size w).alloc (Nat.le_refl _) (.cells z13 29))
  go_enter Tryd.func15, Tryd.ntmps15
  go_wp2_with fail
  refine (lengthC_c A n c l _ (H.out.below ((Below.refl _ _).alloc (Nat.le_refl _) _)) hn).mono ?_
  rintro e W1 ⟨rfl, hb1⟩
  have HK1 : Hid (Blk W1 w.heap.size 29 z13) := HK.out.below HK.out.lt hb1
  have HB1 : Hid (Below w.heap.size w W1) := HBL.out.trans (hb1.mono HBL.out.size)
  clear HK HBL hb1
  by_cases h1 : (lnW l).2 = 0
  · obtain ⟨hN1, hN2, hN3, hN4⟩ := lnW_le h1
    have HPR : Hid (∀ R : Rc, (atL l 30 2 = ndL l → R = rdR l) → (cdB R (atL l 10 2) (atL l 12 2) (atL l 14 2) = l.take (lnW l).1 → P = if mthE R.h.m ≠ 0 then (rc0, 0, 43) else if ¬ okP (unSt (atL l 14 2) (atL l 12 2)) then (rc0, 0, 41) else if nokE R.h.nm ≠ 0 then (rc0, 0, nokE R.h.nm) else (mkC R (unSt (atL l 14 2) (atL l 12 2)), (lnW l).1, 0)) ∧
      (cdB R (atL l 10 2) (atL l 12 2) (atL l 14 2) ≠ l.take (lnW l).1 → P = (rc0, 0, 21))) := fun R hR => by rw [HP.out]; exact prC_R l R h1 hR
    have HRD : Hid (∀ W, RowIn W A n c l → Calls Tryd.prog 30 #[.slice A (lnW l).1 c] W fun e w' => ∃ R : Rc, e = .returned (.tuple #[rcV R, .int .u16 (atL l 14 2 : Nat), .int .u16 (atL l 12 2 : Nat)]) ∧ RcW R ∧ R.h.m = (atL l 10 2 : Nat) ∧ R.h.nm = nmOf ((l.drop 46).take (atL l 28 2)) ∧ R.h.t = st0 ∧ (atL l 30 2 = ndL l → R = rdR l) ∧ Below W.heap.size W w') := fun W hw => readT_c A n c l W hw h1 hn
    have hm := atL_lt2 l 10
    have bd := atL_lt2 l 14
    have bt := atL_lt2 l 12
    have hnn : (nmOf ((l.drop 46).take (atL l 28 2))).length ≤ 65535 := by
      have := atL_lt2 l 28
      show ((l.drop 46).take (atL l 28 2)).length ≤ 65535
      rw [List.length_take]
      omega
    have b1 : ((lnW l).2 != 0) = false := by rw [h1]; rfl
    clear hN3 hN4 HP
    generalize atL l 14 2 = d at *
    generalize atL l 12 2 = t at *
    generalize atL l 10 2 = m at *
    generalize nmOf ((l.drop 46).take (atL l 28 2)) = nm at *
    generalize (lnW l).2 = k at *
    generalize (lnW l).1 = N at *
    have i1 : (N : Int) ≤ (c : Int) := by omega
    have HM := Lib.hid (checkMethodC_c (m : Int))
    have HU := Lib.hid (Unpack_c d t bd bt)
    have HN := Lib.hid (Check_c nm (by omega))
    have HR1 := Lib.hid ((H.out.row.take (k := N) (by omega)).below HB1.out)
    go_wp2_with fail
    refine (HRD.out _ (H.out.below HB1.out)).mono ?_
    rintro e W2 ⟨R, rfl, hRW, hRm, hRn, hRt, hRe, hb2⟩
    have hPV := HPR.out R hRe
    obtain ⟨⟨mm, tt, sm, pk, sz, nm2⟩, kd, o⟩ := R
    dsimp only at hRm hRn hRt hPV
    subst hRm hRn hRt
    have HPV := Lib.hid hPV
    have HL := Lib.hid (layC_c ⟨⟨(m : Int), st0, sm, pk, sz, nm2⟩, kd, o⟩ m t d rfl hm bd bt hRW hnn)
    clear hPV hRW hRe HPR HRD
    have HK2 := Lib.hid (HK1.out.below HK1.out.lt hb2)
    have HB2 := Lib.hid (HB1.out.trans (hb2.mono HB1.out.size))
    clear HK1 HB1
    unfold rcV rcC st0
    dsimp only
    have HKz := Lib.hid HK2
    have HKR := Lib.hid (Blk.new W2 29 #[.int .i64 (m : Nat), .int .i64 0, .int .i64 0, .int .i64 0, .int .i64 0, .int .i64 0, .int .i64 0, .int .u32 sm, .int .u64 pk, .int .u64 sz, .string (S nm2), .int .u32 kd, .int .u64 o])
    have HBa := Lib.hid (HB2.out.alloc HB2.out.size (.cells #[.int .i64 (m : Nat), .int .i64 0, .int .i64 0, .int .i64 0, .int .i64 0, .int .i64 0, .int .i64 0, .int .u32 sm, .int .u64 pk, .int .u64 sz, .string (S nm2), .int .u32 kd, .int .u64 o] 29))
    unfold rcV rcC st0 at HL
    dsimp only at HL
    have HRa := Lib.hid ((HR1.out.below hb2).alloc (.cells #[.int .i64 (m : Nat), .int .i64 0, .int .i64 0, .int .i64 0, .int .i64 0, .int .i64 0, .int .i64 0, .int .u32 sm, .int .u64 pk, .int .u64 sz, .string (S nm2), .int .u32 kd, .int .u64 o] 29))
    have HKa := Lib.hid (HK2.out.below HK2.out.lt ((Below.refl _ _).alloc (Nat.le_refl _) (.cells #[.int .i64 (m : Nat), .int .i64 0, .int .i64 0, .int .i64 0, .int .i64 0, .int .i64 0, .int .i64 0, .int .u32 sm, .int .u64 pk, .int .u64 sz, .string (S nm2), .int .u32 kd, .int .u64 o] 29)))
    have HSZ : Hid (w.heap.size < W2.heap.size) := HKz.out.lt
    clear hb2 HK2 HKz HB2
    go_wp2_with fail
    generalize hX : cdB (⟨⟨(m : Int), ⟨0, 0, 0, 0, 0, 0⟩, sm, pk, sz, nm2⟩, kd, o⟩ : Rc) m t d = X at *
    have HX := Lib.hid hX
    clear hX
    go_region_law (first
      | (go_simp
         go_at_call 23
         refine (HL.out _).mono ?_
         rintro e w3 ⟨A3, N3, c3, rfl, hown3, hb3⟩)
      | (go_simp
         go_at_call 31
         refine (EqualL_c _ _ _ _ _ _ _ _ _ (Row.of_own hown3) (by first | exact (HRa.out.drew).below hb3 | exact HRa.out.below hb3)).mono ?_
         rintro e _ ⟨rfl, rfl⟩))
    clear hown3
    have HKz : Hid (Blk w3 w.heap.size 29 z13) := by first | exact HKa.out.below HKa.out.lt hb3 | exact HKa.out.drew.below HKa.out.lt hb3
    have HK3 : Hid (Blk w3 W2.heap.size 29 #[.int .i64 (m : Nat), .int .i64 0, .int .i64 0, .int .i64 0, .int .i64 0, .int .i64 0, .int .i64 0, .int .u32 sm, .int .u64 pk, .int .u64 sz, .string (S nm2), .int .u32 kd, .int .u64 o]) := by first | exact HKR.out.below HKR.out.lt hb3 | exact HKR.out.drew.below HKR.out.lt hb3
    have HB3 : Hid (Below w.heap.size w w3) := by first | exact HBa.out.trans (hb3.mono HBa.out.size) | exact (below_drewL HBa.out).trans (hb3.mono HBa.out.size)
    clear HKa HKR HBa HRa hb3 HL HR1
    generalize W2.heap.size = g7 at *
    have hg7 : w.heap.size < g7 := HSZ.out
    generalize hbq : decide (X = l.take N) = bq at *
    have HBQ := Lib.hid hbq
    clear hbq
    cases bq
    case true =>
      have hE : Hid (X = l.take N) := @of_decide_eq_true (X = l.take N) _ HBQ.out
      have c0 := (HK3.out.cell 0).trans rfl
      go_wp2_with fail
      refine (HM.out _).mono ?_
      rintro e _ ⟨rfl, rfl⟩
      by_cases h3 : mthE (m : Int) = 0
      · have b3 : (mthE (m : Int) != 0) = false := by rw [h3]; rfl
        generalize mthE (m : Int) = k3 at *
        go_wp2_with fail
        refine (HU.out _ (HT.out.below HB3.out)).mono ?_
        rintro e W4 ⟨rfl, hb4⟩
        have HK4 := Lib.hid (HK3.out.below HK3.out.lt hb4)
        have HZ4 := Lib.hid (HKz.out.below HKz.out.lt hb4)
        have HB4 := Lib.hid (HB3.out.trans (hb4.mono HB3.out.size))
        clear hb4 c0 HKz HK3 HB3
        by_cases h4 : okP (unSt d t)
        · rw [show unV d t = .tuple #[stV (unSt d t), .int .i64 0] from if_pos h4]
          obtain ⟨U, hU⟩ : ∃ U, U = unSt d t := ⟨_, rfl⟩
          rw [← hU]
          have HUU := Lib.hid hU
          clear hU
          obtain ⟨y, mo, dd, hh, mi, s⟩ := U
          unfold stV
          dsimp only
          have t2 := st_stpC HK4.out y mo dd hh mi s
          have HK5 := Lib.hid (HK4.out.setRow #[.int .i64 (m : Nat), .int .i64 y, .int .i64 mo, .int .i64 dd, .int .i64 hh, .int .i64 mi, .int .i64 s, .int .u32 sm, .int .u64 pk, .int .u64 sz, .string (S nm2), .int .u32 kd, .int .u64 o])
          have HZ5 := Lib.hid (HZ4.out.setRowO (g := g7) (by omega) #[.int .i64 (m : Nat), .int .i64 y, .int .i64 mo, .int .i64 dd, .int .i64 hh, .int .i64 mi, .int .i64 s, .int .u32 sm, .int .u64 pk, .int .u64 sz, .string (S nm2), .int .u32 kd, .int .u64 o])
          have HB5 := Lib.hid (below_setRowS HB4.out (show w.heap.size ≤ g7 by omega) #[.int .i64 (m : Nat), .int .i64 y, .int .i64 mo, .int .i64 dd, .int .i64 hh, .int .i64 mi, .int .i64 s, .int .u32 sm, .int .u64 pk, .int .u64 sz, .string (S nm2), .int .u32 kd, .int .u64 o])
          have c10 := (HK5.out.cell 10).trans rfl
          clear HK4 HZ4 HB4
          go_wp2_with (with_reducible refine wpList_store_at _ _ _ (by with_unfolding_all rfl) (by with_unfolding_all rfl) t2 ?_)
          refine (HN.out _).mono ?_
          rintro e W6 ⟨rfl, hb6⟩
          have HK6 := Lib.hid (HK5.out.below HK5.out.lt hb6)
          have HZ6 := Lib.hid (HZ5.out.below HZ5.out.lt hb6)
          have HB6 := Lib.hid (HB5.out.trans (hb6.mono HB5.out.size))
          clear HK5 HZ5 HB5 hb6 c10 t2
          by_cases h5 : nokE nm2 = 0
          · have b5 : (nokE nm2 != 0) = false := by rw [h5]; rfl
            have hv : P = (mkC ⟨⟨(m : Int), st0, sm, pk, sz, nm2⟩, kd, o⟩ ⟨y, mo, dd, hh, mi, s⟩, N, 0) := by
              rw [HPV.out.1 (HX.out.trans hE.out), if_neg (fun e => e h3), if_neg (fun e => e h4), if_neg (fun e => e h5), ← HUU.out]
            generalize nokE nm2 = k5 at *
            have q1 := ld_rc HK6.out rfl
            have t2 := st_rc HZ6.out rfl #[.int .i64 (m : Nat), .int .i64 y, .int .i64 mo, .int .i64 dd, .int .i64 hh, .int .i64 mi, .int .i64 s, .int .u32 sm, .int .u64 pk, .int .u64 sz, .string (S nm2), .int .u32 kd, .int .u64 o] rfl (by simp [Value.oneCell'])
            have t3 := ld_rc (HZ6.out.setRow #[.int .i64 (m : Nat), .int .i64 y, .int .i64 mo, .int .i64 dd, .int .i64 hh, .int .i64 mi, .int .i64 s, .int .u32 sm, .int .u64 pk, .int .u64 sz, .string (S nm2), .int .u32 kd, .int .u64 o]) rfl
            have HB9 := Lib.hid (below_setRowS HB6.out (Nat.le_refl _) #[.int .i64 (m : Nat), .int .i64 y, .int .i64 mo, .int .i64 dd, .int .i64 hh, .int .i64 mi, .int .i64 s, .int .u32 sm, .int .u64 pk, .int .u64 sz, .string (S nm2), .int .u32 kd, .int .u64 o])
            go_wp2_with (first
              | (with_reducible refine wpList_load_var _ _ (by with_unfolding_all rfl) q1 ?_)
              | (with_reducible refine wpList_store_var _ _ _ (by with_unfolding_all rfl) (by with_unfolding_all rfl) t2 ?_))
            refine bodyPost_ret (v := .tuple #[.agg #[.int .i64 (m : Nat), .int .i64 y, .int .i64 mo, .int .i64 dd, .int .i64 hh, .int .i64 mi, .int .i64 s, .int .u32 sm, .int .u64 pk, .int .u64 sz, .string (S nm2), .int .u32 kd, .int .u64 o], .int .i64 (N : Nat), .int .i64 0]) ?_ rfl ⟨by rw [hv]; rfl, HB9.out⟩
            rw [results_cell_tt rfl]
            simp [asAddr, Result.andThen, t3]
          · have b5 : (nokE nm2 != 0) = true := by rw [bne_iff_ne]; exact h5
            have hv : P = (rc0, 0, nokE nm2) := by
              rw [HPV.out.1 (HX.out.trans hE.out), if_neg (fun e => e h3), if_neg (fun e => e h4), if_pos h5]
            generalize nokE nm2 = k5 at *
            have t2 := st_rc HZ6.out rfl z13 rfl (by simp [z13, Value.oneCell'])
            have t3 := ld_rc (HZ6.out.setRow z13) rfl
            have HB9 := Lib.hid (below_setRowS HB6.out (Nat.le_refl _) z13)
            go_wp2_with (with_reducible refine wpList_store_var _ _ _ (by with_unfolding_all rfl) (by with_unfolding_all rfl) t2 ?_)
            refine bodyPost_ret (v := .tuple #[.agg z13, .int .i64 0, .int .i64 k5]) ?_ rfl ⟨by rw [hv, rc0_z]; rfl, HB9.out⟩
            rw [results_cell_tt rfl]
            simp [asAddr, Result.andThen, t3]
        · have hv : P = (rc0, 0, 41) := by
            rw [HPV.out.1 (HX.out.trans hE.out), if_neg (fun e => e h3), if_pos h4]
          rw [show unV d t = .tuple #[stV st0, .int .i64 41] from if_neg h4]
          unfold stV st0
          dsimp only
          have t1 := st_stpC HK4.out 0 0 0 0 0 0
          have HZ5 := Lib.hid (HZ4.out.setRowO (g := g7) (by omega) #[.int .i64 (m : Nat), .int .i64 0, .int .i64 0, .int .i64 0, .int .i64 0, .int .i64 0, .int .i64 0, .int .u32 sm, .int .u64 pk, .int .u64 sz, .string (S nm2), .int .u32 kd, .int .u64 o])
          have HB5 := Lib.hid (below_setRowS HB4.out (show w.heap.size ≤ g7 by omega) #[.int .i64 (m : Nat), .int .i64 0, .int .i64 0, .int .i64 0, .int .i64 0, .int .i64 0, .int .i64 0, .int .u32 sm, .int .u64 pk, .int .u64 sz, .string (S nm2), .int .u32 kd, .int .u64 o])
          clear HK4 HZ4 HB4
          have t2 := st_rc HZ5.out rfl z13 rfl (by simp [z13, Value.oneCell'])
          have t3 := ld_rc (HZ5.out.setRow z13) rfl
          have HB9 := Lib.hid (below_setRowS HB5.out (Nat.le_refl _) z13)
          go_wp2_with (first | (with_reducible refine wpList_store_at _ _ _ (by with_unfolding_all rfl) (by with_unfolding_all rfl) t1 ?_) | with_reducible refine wpList_store_var _ _ _ (by with_unfolding_all rfl) (by with_unfolding_all rfl) t2 ?_)
          refine bodyPost_ret (v := .tuple #[.agg z13, .int .i64 0, .int .i64 41]) ?_ rfl ⟨by rw [hv, rc0_z]; rfl, HB9.out⟩
          rw [results_cell_tt rfl]
          simp [asAddr, Result.andThen, t3]
      · have b3 : (mthE (m : Int) != 0) = true := by rw [bne_iff_ne]; exact h3
        have hv : P = (rc0, 0, mthE (m : Int)) := by
          rw [HPV.out.1 (HX.out.trans hE.out), if_pos h3]
          have : mthE (m : Int) = 43 := by unfold mthE at h3 ⊢; split <;> simp_all
          rw [this]
        generalize mthE (m : Int) = k3 at *
        have t2 := st_rc HKz.out rfl z13 rfl (by simp [z13, Value.oneCell'])
        have t3 := ld_rc (HKz.out.setRow z13) rfl
        have HB9 := Lib.hid (below_setRowS HB3.out (Nat.le_refl _) z13)
        go_wp2_with (with_reducible refine wpList_store_var _ _ _ (by with_unfolding_all rfl) (by with_unfolding_all rfl) t2 ?_)
        refine bodyPost_ret (v := .tuple #[.agg z13, .int .i64 0, .int .i64 k3]) ?_ rfl ⟨by rw [hv, rc0_z]; rfl, HB9.out⟩
        rw [results_cell_tt rfl]
        simp [asAddr, Result.andThen, t3]
    case false =>
      have hv : P = (rc0, 0, 21) := by
        have hne : cdB ⟨⟨(m : Int), st0, sm, pk, sz, nm2⟩, kd, o⟩ m t d ≠ l.take N := fun e => (of_decide_eq_false HBQ.out) (HX.out.symm.trans e)
        exact HPV.out.2 hne
      have t2 := st_rc HKz.out rfl z13 rfl (by simp [z13, Value.oneCell'])
      have t3 := ld_rc (HKz.out.setRow z13) rfl
      have HB9 := Lib.hid (below_setRowS HB3.out (Nat.le_refl _) z13)
      go_wp2_with (with_reducible refine wpList_store_var _ _ _ (by with_unfolding_all rfl) (by with_unfolding_all rfl) t2 ?_)
      refine bodyPost_ret (v := .tuple #[.agg z13, .int .i64 0, .int .i64 21]) ?_ rfl ⟨by rw [hv, rc0_z]; rfl, HB9.out⟩
      rw [results_cell_tt rfl]
      simp [asAddr, Result.andThen, t3]
  · have b1 : ((lnW l).2 != 0) = true := by rw [bne_iff_ne]; exact h1
    have hPV : P = (rc0, 0, (lnW l).2) := by
      rw [HP.out]
      unfold prC
      rw [if_pos h1]
    have HPV := Lib.hid hPV
    clear hPV HP h1
    generalize (lnW l).2 = k at *
    have t2 := st_rc HK1.out rfl z13 rfl (by simp [z13, Value.oneCell'])
    have t3 := ld_rc (HK1.out.setRow z13) rfl
    have HB9 := Lib.hid (below_setRowS HB1.out (Nat.le_refl _) z13)
    go_wp2_with (with_reducible refine wpList_store_var _ _ _ (by with_unfolding_all rfl) (by with_unfolding_all rfl) t2 ?_)
    refine bodyPost_ret (v := .tuple #[.agg z13, .int .i64 0, .int .i64 k]) ?_ rfl ⟨by rw [HPV.out, rc0_z]; rfl, HB9.out⟩
    rw [results_cell_tt rfl]
    simp [asAddr, Result.andThen, t3]
end Go.Proofs.YtacllgglpjdobaaDoor
