/-
  LAW 24's WALKS, second part: SealWrites: it returns true, and writes nothing that was there. No conditions but that the table lies as the program's text lays it.
-/
import Derived.Test.YtbgdoemealddpaaDoorLaw24
import Derived.Test.YtbgdoemealddpaaDoorFrame24
namespace Go.Proofs.YtbgdoemealddpaaDoor
open Go.RowKit
set_option maxRecDepth 100000
set_option linter.unusedVariables false

set_option maxHeartbeats 8000000 in
theorem walk_SealWrites (w : World) (ht : Tab w) (N K S B I : Int) (A : Option Addr) (n cap : Nat) (RA : Nat → Option Addr) (RL RC : Nat → Nat) (R : Nat → List G) (h4 : Wf4 N K S B) (hI : (Lit.int .i64 I).wf = true) (hG : GIn w A n cap RA RL RC R)
    (C : Option Addr) (L cc : Nat) (col : List F) (hC : RowIn w C L cc col) (A2 : Option Addr) (m cap2 : Nat) (RA2 : Nat → Option Addr) (RL2 RC2 : Nat → Nat) (R2 : Nat → List F) (hM : MIn w A2 m cap2 RA2 RL2 RC2 R2) :
    Calls Tryd.prog 3 #[.agg #[.int .i64 N, .int .i64 K, .int .i64 S, .int .i64 B, .int .i64 I, .slice A n cap], .slice C L cc, .slice A2 m cap2] w fun e w' => e = .returned (.bool true) ∧ Below w.heap.size w w' := by
  have hb := (Below.refl w.heap.size w).alloc (Nat.le_refl _) (.cells #[.int .i64 N, .int .i64 K, .int .i64 S, .int .i64 B, .int .i64 I, .slice A n cap] 26)
  have HX0 := Lib.hid (Blk.new w 26 #[.int .i64 N, .int .i64 K, .int .i64 S, .int .i64 B, .int .i64 I, .slice A n cap])
  have HB0 := Lib.hid hb
  have HG0 := Lib.hid (hG.below hb)
  have HC0 := Lib.hid (hC.below hb)
  have HM0 := Lib.hid (hM.below hb)
  have HT := Lib.hid ht
  have hnm := hM.nmax
  have hLm := hC.row.max
  have HW := Lib.hid h4
  clear hb hG hC hM ht hI h4
  go_enter Tryd.func3, Tryd.ntmps3
  go_wp2_with fail
  refine (alive24_c _ (HT.out.below HB0.out rfl)).mono ?_
  rintro e W1 ⟨rfl, hb1⟩
  have HX1 := Lib.hid (HX0.out.below HX0.out.lt hb1)
  have HB1 := Lib.hid (HB0.out.trans (hb1.mono HB0.out.size))
  have HG1 := Lib.hid (HG0.out.below hb1)
  have HC1 := Lib.hid (HC0.out.below hb1)
  have HM1 := Lib.hid (HM0.out.below hb1)
  clear hb1 HX0 HB0 HG0 HC0 HM0
  go_wp2
  go_loop [18] (fun i => ∃ k : Nat, k ≤ m ∧ i = .int .i64 k ∧ Hid (∀ r, r < k → RL2 r ≤ 200)) (fun i => m - (intOf i).toNat)
  case atStart => exact ⟨0, by omega, rfl, fun r h1 => by omega⟩
  case round =>
    obtain ⟨k, hk, rfl, hs⟩ := hrel
    by_cases hlt : k < m
    · have hkm : (k : Int) < m := by omega
      have hk0 : (0 : Int) ≤ (k : Int) := by omega
      obtain ⟨b1, o1, hA2, l1, q1⟩ := MIn.at_ HM1.out hlt
      subst hA2
      have hrm := (HM1.out.row k hlt).row.max
      obtain ⟨z, hz⟩ : ∃ z, z = RL2 k := ⟨_, rfl⟩
      rw [← hz] at q1 hrm
      have HZ := Lib.hid hz
      clear hz
      by_cases hz2 : z ≤ 200
      · have hzi : ¬ (200 : Int) < (z : Int) := by omega
        go_wp2
        go_round
        case rel =>
          refine ⟨k + 1, by omega, by go_num, fun r h1 => ?_⟩
          rcases Nat.lt_or_ge r k with h3 | h3
          · exact hs.out r h3
          · rw [show r = k by omega, ← HZ.out]; exact hz2
        case measure => simp [intOf]; omega
      · have hzi : (200 : Int) < (z : Int) := by omega
        go_wp2
        go_ret
        exact ⟨rfl, HB1.out⟩
    · obtain rfl : k = m := by omega
      have z0 := (HX1.out.cell 0).trans (show _ = some (Value.int .i64 N) from rfl)
      have z1 := (HX1.out.cell 1).trans (show _ = some (Value.int .i64 K) from rfl)
      have z2 := (HX1.out.cell 2).trans (show _ = some (Value.int .i64 S) from rfl)
      have z3 := (HX1.out.cell 3).trans (show _ = some (Value.int .i64 B) from rfl)
      have z4 := (HX1.out.cell 4).trans (show _ = some (Value.int .i64 I) from rfl)
      have z5 := (HX1.out.cell 5).trans (show _ = some (Value.slice A n cap) from rfl)
      go_wp2_with fail
      refine (small_c HW.out HG1.out).mono ?_
      rintro e W2 ⟨b, rfl, hsm, hb2⟩
      have HX2 := Lib.hid (HX1.out.below HX1.out.lt hb2)
      have HB2 := Lib.hid (HB1.out.trans (hb2.mono HB1.out.size))
      have HG2 := Lib.hid (HG1.out.below hb2)
      have HC2 := Lib.hid (HC1.out.below hb2)
      have HM2 := Lib.hid (HM1.out.below hb2)
      have HSM := Lib.hid hsm
      clear hb2 hsm z0 z1 z2 z3 z4 z5 HX1 HB1 HG1 HC1 HM1
      cases b with
      | false =>
        go_wp2
        go_ret
        exact ⟨rfl, HB2.out⟩
      | true =>
        by_cases hL : 1100 < L
        case pos =>
          have hLi : (1100 : Int) < (L : Int) := by omega
          go_wp2
          go_ret
          exact ⟨rfl, HB2.out⟩
        case neg =>
        have hLi : ¬ (1100 : Int) < (L : Int) := by omega
        by_cases hm2 : 20 < k
        case pos =>
          have hmi : (20 : Int) < (k : Int) := by omega
          go_wp2
          go_ret
          exact ⟨rfl, HB2.out⟩
        case neg =>
        have hmi : ¬ (20 : Int) < (k : Int) := by omega
        have hD : wrD N K S B I n RL L := (HSM.out rfl).wrD
        have hlen := wrB_le (R := R) (col := col) (fun r hr => (HG2.out.row r hr).1) HC2.out.row.len hD
        have HD := Lib.hid hD
        clear hD
        have z0 := (HX2.out.cell 0).trans (show _ = some (Value.int .i64 N) from rfl)
        have z1 := (HX2.out.cell 1).trans (show _ = some (Value.int .i64 K) from rfl)
        have z2 := (HX2.out.cell 2).trans (show _ = some (Value.int .i64 S) from rfl)
        have z3 := (HX2.out.cell 3).trans (show _ = some (Value.int .i64 B) from rfl)
        have z4 := (HX2.out.cell 4).trans (show _ = some (Value.int .i64 I) from rfl)
        have z5 := (HX2.out.cell 5).trans (show _ = some (Value.slice A n cap) from rfl)
        go_wp2_with fail
        refine (WriteU_c HW.out (HT.out.below HB2.out rfl) HG2.out HC2.out HD.out).mono ?_
        rintro e W3 ⟨V3, c3, rfl, hown3, hb3⟩
        have HX3 := Lib.hid (HX2.out.below HX2.out.lt hb3)
        have HB3 := Lib.hid (HB2.out.trans (hb3.mono HB2.out.size))
        have HG3 := Lib.hid (HG2.out.below hb3)
        have HC3 := Lib.hid (HC2.out.below hb3)
        have HM3 := Lib.hid (HM2.out.below hb3)
        have HV3 := Lib.hid (own_in hown3)
        clear hb3 hown3 z0 z1 z2 z3 z4 z5 HX2 HB2 HG2 HC2 HM2
        have z0 := (HX3.out.cell 0).trans (show _ = some (Value.int .i64 N) from rfl)
        have z1 := (HX3.out.cell 1).trans (show _ = some (Value.int .i64 K) from rfl)
        have z2 := (HX3.out.cell 2).trans (show _ = some (Value.int .i64 S) from rfl)
        have z3 := (HX3.out.cell 3).trans (show _ = some (Value.int .i64 B) from rfl)
        have z4 := (HX3.out.cell 4).trans (show _ = some (Value.int .i64 I) from rfl)
        have z5 := (HX3.out.cell 5).trans (show _ = some (Value.slice A n cap) from rfl)
        go_wp2_with fail
        refine (as_c N K S B I A n cap _).mono ?_
        rintro e W4 ⟨rfl, hb4⟩
        have HX4 := Lib.hid (HX3.out.below HX3.out.lt hb4)
        have HB4 := Lib.hid (HB3.out.trans (hb4.mono HB3.out.size))
        have HG4 := Lib.hid (HG3.out.below hb4)
        have HC4 := Lib.hid (HC3.out.below hb4)
        have HM4 := Lib.hid (HM3.out.below hb4)
        have HV4 := Lib.hid (HV3.out.below hb4)
        clear hb4 z0 z1 z2 z3 z4 z5 HX3 HB3 HG3 HC3 HM3 HV3
        go_wp2_with fail
        refine (RWriteU_c HW.out HG4.out HC4.out HD.out).mono ?_
        rintro e W5 ⟨V5, c5, rfl, hown5, hb5⟩
        have HX5 := Lib.hid (HX4.out.below HX4.out.lt hb5)
        have HB5 := Lib.hid (HB4.out.trans (hb5.mono HB4.out.size))
        have HM5 := Lib.hid (HM4.out.below hb5)
        have HV5 := Lib.hid (HV4.out.below hb5)
        have HU5 := Lib.hid (own_in hown5)
        clear hb5 hown5 HX4 HB4 HG4 HC4 HM4 HV4
        generalize wrB N K S B I n RL R L col = bs at *
        generalize hbl : bs.length = bl at *
        generalize wrE N K S B I n RL L = er at *
        clear hbl
        have e0 : (er != er) = false := by simp
        go_wp2_with (go_at_call 12; refine (Same_c V3 V5 bl c3 c5 bs bs _ HV5.out.row HU5.out.row rfl).mono ?_; rintro e W6 ⟨rfl, q6, hq6⟩; have hbx := (show Below W5.heap.size W5 W6 from hq6 ▸ below_drewN (Below.refl _ _) q6); have HX6 := Lib.hid (HX5.out.below HX5.out.lt hbx); have HB6 := Lib.hid (HB5.out.trans (hbx.mono HB5.out.size)); have HM6 := Lib.hid (HM5.out.below hbx); clear hbx hq6 HX5 HB5 HM5 HV5 HU5; have x0 := (HX6.out.cell 0).trans (show _ = some (Value.int .i64 N) from rfl); have x1 := (HX6.out.cell 1).trans (show _ = some (Value.int .i64 K) from rfl); have x2 := (HX6.out.cell 2).trans (show _ = some (Value.int .i64 S) from rfl); have x3 := (HX6.out.cell 3).trans (show _ = some (Value.int .i64 B) from rfl))
        have ha6 := (Below.refl W6.heap.size W6).alloc (Nat.le_refl _) (.cells #[.int .i64 N, .int .i64 K, .int .i64 S, .int .i64 B] 36)
        have HX7 := Lib.hid (HX6.out.below HX6.out.lt ha6)
        have HY7 := Lib.hid (Blk.new W6 36 #[.int .i64 N, .int .i64 K, .int .i64 S, .int .i64 B])
        have HB7 := Lib.hid (HB6.out.trans (ha6.mono HB6.out.size))
        have HM7 := Lib.hid (HM6.out.below ha6)
        have HRR := Lib.hid (RRight_c HW.out (W6.alloc (.cells #[.int .i64 N, .int .i64 K, .int .i64 S, .int .i64 B] 36)))
        clear ha6 x0 x1 x2 x3 HX6 HB6 HM6
        refine HRR.out.mono ?_
        rintro e W8 ⟨rfl, hb8⟩
        have HX8 := Lib.hid (HX7.out.below HX7.out.lt hb8)
        have HY8 := Lib.hid (HY7.out.below HY7.out.lt hb8)
        have HB8 := Lib.hid (HB7.out.trans (hb8.mono HB7.out.size))
        have HM8 := Lib.hid (HM7.out.below hb8)
        obtain ⟨gb, hgb⟩ : ∃ gb, gb = W6.heap.size := ⟨_, rfl⟩
        rw [← hgb] at HY8 ⊢
        clear hb8 HX7 HY7 HB7 HM7 HRR hgb
        cases hr : right23 N K S B with
        | false =>
          have HH := Lib.hid (Head_no HW.out hr)
          have HS := Lib.hid (fun W => Sums_no HW.out hr W A2 k cap2)
          clear hr
          have x0 := (HX8.out.cell 0).trans (show _ = some (Value.int .i64 N) from rfl)
          have x1 := (HX8.out.cell 1).trans (show _ = some (Value.int .i64 K) from rfl)
          have x2 := (HX8.out.cell 2).trans (show _ = some (Value.int .i64 S) from rfl)
          have x3 := (HX8.out.cell 3).trans (show _ = some (Value.int .i64 B) from rfl)
          go_wp2_with fail
          refine (HH.out _).mono ?_
          rintro e W9 ⟨rfl, hb9⟩
          have HX9 := Lib.hid (HX8.out.below HX8.out.lt hb9)
          have HB9 := Lib.hid (HB8.out.trans (hb9.mono HB8.out.size))
          clear hb9 x0 x1 x2 x3
          have x0 := (HX9.out.cell 0).trans (show _ = some (Value.int .i64 N) from rfl)
          have x1 := (HX9.out.cell 1).trans (show _ = some (Value.int .i64 K) from rfl)
          have x2 := (HX9.out.cell 2).trans (show _ = some (Value.int .i64 S) from rfl)
          have x3 := (HX9.out.cell 3).trans (show _ = some (Value.int .i64 B) from rfl)
          go_wp2_with fail
          refine (HS.out _).mono ?_
          rintro e Wa ⟨rfl, hba⟩
          have HBa := Lib.hid (HB9.out.trans (hba.mono HB9.out.size))
          clear hba
          go_wp2
          go_ret
          exact ⟨rfl, HBa.out⟩
        | true =>
          obtain ⟨n', k', s', b', rfl, rfl, rfl, rfl, _, _, _, _, hb1, _⟩ := right23_nat hr
          have HH := Lib.hid (Head_yes HW.out hr)
          have HRH := Lib.hid (RHead_c HW.out hr)
          have HS := Lib.hid (fun W (ht : Tab W) hM => Sums_yes (w := W) HW.out hr ht (A := A2) (m := k) (cap := cap2) (RA := RA2) (RL := RL2) (RC := RC2) (R := R2) hM (by omega) (fun r h9 => Nat.le_trans (hs.out r h9) (by omega)))
          have HRS := Lib.hid (fun W hM => RSums_c (b := b') (w := W) (by omega) (by omega) (A := A2) (m := k) (cap := cap2) (RA := RA2) (RL := RL2) (RC := RC2) (R := R2) hM (by omega) (fun r h9 => Nat.le_trans (hs.out r h9) (by omega)))
          have eh : ((hdN n' k' (blkN s' b') : Int) == (hdN n' k' (blkN s' b') : Int)) = true := by simp
          clear hr
          generalize hdN n' k' (blkN s' b') = hd at *
          have x0 := (HX8.out.cell 0).trans (show _ = some (Value.int .i64 (n' : Int)) from rfl)
          have x1 := (HX8.out.cell 1).trans (show _ = some (Value.int .i64 (k' : Int)) from rfl)
          have x2 := (HX8.out.cell 2).trans (show _ = some (Value.int .i64 (s' : Int)) from rfl)
          have x3 := (HX8.out.cell 3).trans (show _ = some (Value.int .i64 (b' : Int)) from rfl)
          have x4 := (HX8.out.cell 4).trans (show _ = some (Value.int .i64 I) from rfl)
          have x5 := (HX8.out.cell 5).trans (show _ = some (Value.slice A n cap) from rfl)
          have y0 := (HY8.out.cell 0).trans (show _ = some (Value.int .i64 (n' : Int)) from rfl)
          have y1 := (HY8.out.cell 1).trans (show _ = some (Value.int .i64 (k' : Int)) from rfl)
          have y2 := (HY8.out.cell 2).trans (show _ = some (Value.int .i64 (s' : Int)) from rfl)
          have y3 := (HY8.out.cell 3).trans (show _ = some (Value.int .i64 (b' : Int)) from rfl)
          go_wp2_with fail
          have hbx : Below W8.heap.size W8 W8.drew := below_drewN (Below.refl _ _) 1
          have HXd := Lib.hid (HX8.out.below HX8.out.lt hbx)
          have HYd := Lib.hid (HY8.out.below HY8.out.lt hbx)
          have HBd := Lib.hid (HB8.out.trans (hbx.mono HB8.out.size))
          have HMd := Lib.hid (HM8.out.below hbx)
          clear hbx
          refine wp_region_held_drew (S := fun W' => W'.cell? ⟨w.heap.size, 0, none⟩ = some (.int .i64 (n' : Int)) ∧ W'.cell? ⟨w.heap.size, 1, none⟩ = some (.int .i64 (k' : Int)) ∧ W'.cell? ⟨w.heap.size, 2, none⟩ = some (.int .i64 (s' : Int)) ∧ W'.cell? ⟨w.heap.size, 3, none⟩ = some (.int .i64 (b' : Int)) ∧ W'.cell? ⟨w.heap.size, 4, none⟩ = some (.int .i64 I) ∧ W'.cell? ⟨w.heap.size, 5, none⟩ = some (.slice A n cap) ∧ W'.cell? ⟨gb, 0, none⟩ = some (.int .i64 (n' : Int)) ∧ W'.cell? ⟨gb, 1, none⟩ = some (.int .i64 (k' : Int)) ∧ W'.cell? ⟨gb, 2, none⟩ = some (.int .i64 (s' : Int)) ∧ W'.cell? ⟨gb, 3, none⟩ = some (.int .i64 (b' : Int))) (by kernel_rfl) ?_ (fun hHeld => ?_)
          · exact ⟨HXd.out.cell 0, HXd.out.cell 1, HXd.out.cell 2, HXd.out.cell 3, HXd.out.cell 4, HXd.out.cell 5, HYd.out.cell 0, HYd.out.cell 1, HYd.out.cell 2, HYd.out.cell 3⟩
          refine wpAnyH_take (i := 0) (oi := { dst := some 78, op := _, type := _, pos := _, after := _, guard := _ }) (v := ?_) rfl (by kernel_rfl) (by kernel_rfl) (by kernel_rfl) (fun _ _ _ h => h) (Or.inl ⟨by rfl, ?_⟩) (by assumption) ?_
          rotate_left
          · intro w' hSw
            try dsimp only at hSw
            go_simp
            try with_reducible rfl
          try simp only [Act.put, List.setIfInBounds_toArray, List.set_cons_zero, List.set_cons_succ]
          refine wpAnyH_take (i := 1) (oi := { dst := some 79, op := _, type := _, pos := _, after := _, guard := _ }) (v := ?_) rfl (by kernel_rfl) (by kernel_rfl) (by kernel_rfl) (fun _ _ _ h => h) (Or.inl ⟨by rfl, ?_⟩) (by assumption) ?_
          rotate_left
          · intro w' hSw
            try dsimp only at hSw
            go_simp
            try with_reducible rfl
          try simp only [Act.put, List.setIfInBounds_toArray, List.set_cons_zero, List.set_cons_succ]
          refine wpAnyH_take (i := 3) (oi := { dst := some 81, op := _, type := _, pos := _, after := _, guard := _ }) (v := ?_) rfl (by kernel_rfl) (by kernel_rfl) (by kernel_rfl) (fun _ _ _ h => h) (Or.inl ⟨by rfl, ?_⟩) (by assumption) ?_
          rotate_left
          · intro w' hSw
            try dsimp only at hSw
            go_simp
            try with_reducible rfl
          try simp only [Act.put, List.setIfInBounds_toArray, List.set_cons_zero, List.set_cons_succ]
          refine wpAnyH_ready (rs := [2]) (by kernel_rfl) (by simp) ?_
          refine AllReadyH.cons (o := { dst := some 80, op := _, type := _, pos := _, after := _, guard := _ }) rfl (fun K hK => ?_) AllReadyH.nil
          go_simp
          go_at_call 14
          refine (HH.out _).mono ?_
          rintro e Wt ⟨rfl, hbx⟩
          try go_wp2_with fail
          have HXt := Lib.hid (HXd.out.below HXd.out.lt hbx)
          have HYt := Lib.hid (HYd.out.below HYd.out.lt hbx)
          have HBt := Lib.hid (HBd.out.trans (hbx.mono HBd.out.size))
          have HMt := Lib.hid (HMd.out.below hbx)
          clear hbx
          refine hK.out _ _ ?_ (fun hHeld => ?_)
          · exact ⟨HXt.out.cell 0, HXt.out.cell 1, HXt.out.cell 2, HXt.out.cell 3, HXt.out.cell 4, HXt.out.cell 5, HYt.out.cell 0, HYt.out.cell 1, HYt.out.cell 2, HYt.out.cell 3⟩
          clear hK K
          try simp only [Act.put, List.setIfInBounds_toArray, List.set_cons_zero, List.set_cons_succ]
          refine wpAnyH_ready (rs := [4]) (by kernel_rfl) (by simp) ?_
          refine AllReadyH.cons (o := { dst := some 82, op := _, type := _, pos := _, after := _, guard := _ }) rfl (fun K hK => ?_) AllReadyH.nil
          go_simp
          go_at_call 16
          refine (HRH.out _).mono ?_
          rintro e Wu ⟨rfl, hbx⟩
          try go_wp2_with fail
          have HXu := Lib.hid (HXt.out.below HXt.out.lt hbx)
          have HYu := Lib.hid (HYt.out.below HYt.out.lt hbx)
          have HBu := Lib.hid (HBt.out.trans (hbx.mono HBt.out.size))
          have HMu := Lib.hid (HMt.out.below hbx)
          clear hbx
          refine hK.out _ _ ?_ (fun hHeld => ?_)
          · exact ⟨HXu.out.cell 0, HXu.out.cell 1, HXu.out.cell 2, HXu.out.cell 3, HXu.out.cell 4, HXu.out.cell 5, HYu.out.cell 0, HYu.out.cell 1, HYu.out.cell 2, HYu.out.cell 3⟩
          clear hK K
          try simp only [Act.put, List.setIfInBounds_toArray, List.set_cons_zero, List.set_cons_succ]
          refine wpAnyH_take (i := 5) (oi := { dst := some 83, op := _, type := _, pos := _, after := _, guard := _ }) (v := ?_) rfl (by kernel_rfl) (by kernel_rfl) (by kernel_rfl) (fun _ _ _ h => h) (Or.inl ⟨by rfl, ?_⟩) (by assumption) ?_
          rotate_left
          · intro w' hSw
            try dsimp only at hSw
            go_simp
            try with_reducible rfl
          try simp only [Act.put, List.setIfInBounds_toArray, List.set_cons_zero, List.set_cons_succ]
          refine wpAnyH_take (i := 6) (oi := { dst := some 84, op := _, type := _, pos := _, after := _, guard := _ }) (v := ?_) rfl (by kernel_rfl) (by kernel_rfl) (by kernel_rfl) (fun _ _ _ h => h) (Or.inl ⟨by rfl, ?_⟩) (by assumption) ?_
          rotate_left
          · intro w' hSw
            try dsimp only at hSw
            go_simp
            try with_reducible rfl
          try simp only [Act.put, List.setIfInBounds_toArray, List.set_cons_zero, List.set_cons_succ]
          refine wpAnyH_take (i := 7) (oi := { dst := some 85, op := _, type := _, pos := _, after := _, guard := _ }) (v := ?_) rfl (by kernel_rfl) (by kernel_rfl) (by kernel_rfl) (fun _ _ _ h => h) (Or.inl ⟨by rfl, ?_⟩) (by assumption) ?_
          rotate_left
          · intro w' hSw
            try dsimp only at hSw
            go_simp
            try with_reducible rfl
          try simp only [Act.put, List.setIfInBounds_toArray, List.set_cons_zero, List.set_cons_succ]
          refine wpAnyH_take (i := 8) (oi := { dst := some 86, op := _, type := _, pos := _, after := _, guard := _ }) (v := ?_) rfl (by kernel_rfl) (by kernel_rfl) (by kernel_rfl) (fun _ _ _ h => h) (Or.inl ⟨by rfl, ?_⟩) (by assumption) ?_
          rotate_left
          · intro w' hSw
            try dsimp only at hSw
            go_simp
            try with_reducible rfl
          try simp only [Act.put, List.setIfInBounds_toArray, List.set_cons_zero, List.set_cons_succ]
          refine wpAnyH_take (i := 9) (oi := { dst := some 87, op := _, type := _, pos := _, after := _, guard := _ }) (v := ?_) rfl (by kernel_rfl) (by kernel_rfl) (by kernel_rfl) (fun _ _ _ h => h) (Or.inl ⟨by rfl, ?_⟩) (by assumption) ?_
          rotate_left
          · intro w' hSw
            try dsimp only at hSw
            go_simp
            try with_reducible rfl
          try simp only [Act.put, List.setIfInBounds_toArray, List.set_cons_zero, List.set_cons_succ]
          refine wpAnyH_take (i := 11) (oi := { dst := some 89, op := _, type := _, pos := _, after := _, guard := _ }) (v := ?_) rfl (by kernel_rfl) (by kernel_rfl) (by kernel_rfl) (fun _ _ _ h => h) (Or.inl ⟨by rfl, ?_⟩) (by assumption) ?_
          rotate_left
          · intro w' hSw
            try dsimp only at hSw
            go_simp
            try with_reducible rfl
          try simp only [Act.put, List.setIfInBounds_toArray, List.set_cons_zero, List.set_cons_succ]
          refine wpAnyH_take (i := 12) (oi := { dst := some 90, op := _, type := _, pos := _, after := _, guard := _ }) (v := ?_) rfl (by kernel_rfl) (by kernel_rfl) (by kernel_rfl) (fun _ _ _ h => h) (Or.inl ⟨by rfl, ?_⟩) (by assumption) ?_
          rotate_left
          · intro w' hSw
            try dsimp only at hSw
            go_simp
            try with_reducible rfl
          try simp only [Act.put, List.setIfInBounds_toArray, List.set_cons_zero, List.set_cons_succ]
          refine wpAnyH_take (i := 13) (oi := { dst := some 91, op := _, type := _, pos := _, after := _, guard := _ }) (v := ?_) rfl (by kernel_rfl) (by kernel_rfl) (by kernel_rfl) (fun _ _ _ h => h) (Or.inl ⟨by rfl, ?_⟩) (by assumption) ?_
          rotate_left
          · intro w' hSw
            try dsimp only at hSw
            go_simp
            try with_reducible rfl
          try simp only [Act.put, List.setIfInBounds_toArray, List.set_cons_zero, List.set_cons_succ]
          refine wpAnyH_take (i := 14) (oi := { dst := some 92, op := _, type := _, pos := _, after := _, guard := _ }) (v := ?_) rfl (by kernel_rfl) (by kernel_rfl) (by kernel_rfl) (fun _ _ _ h => h) (Or.inl ⟨by rfl, ?_⟩) (by assumption) ?_
          rotate_left
          · intro w' hSw
            try dsimp only at hSw
            go_simp
            try with_reducible rfl
          try simp only [Act.put, List.setIfInBounds_toArray, List.set_cons_zero, List.set_cons_succ]
          refine wpAnyH_ready (rs := [10]) (by kernel_rfl) (by simp) ?_
          refine AllReadyH.cons (o := { dst := some 88, op := _, type := _, pos := _, after := _, guard := _ }) rfl (fun K hK => ?_) AllReadyH.nil
          go_simp
          go_at_call 15
          refine (HS.out _ (HT.out.below HBu.out rfl) HMu.out).mono ?_
          rintro e Wv ⟨gS, RAS, RCS, rfl, hgS, hbx, _, _⟩
          try go_wp2_with fail
          have HXv := Lib.hid (HXu.out.below HXu.out.lt hbx)
          have HYv := Lib.hid (HYu.out.below HYu.out.lt hbx)
          have HBv := Lib.hid (HBu.out.trans (hbx.mono HBu.out.size))
          have HMv := Lib.hid (HMu.out.below hbx)
          have HSv := Lib.hid hgS
          clear hgS
          clear hbx
          refine hK.out _ _ ?_ (fun hHeld => ?_)
          · exact ⟨HXv.out.cell 0, HXv.out.cell 1, HXv.out.cell 2, HXv.out.cell 3, HXv.out.cell 4, HXv.out.cell 5, HYv.out.cell 0, HYv.out.cell 1, HYv.out.cell 2, HYv.out.cell 3⟩
          clear hK K
          try simp only [Act.put, List.setIfInBounds_toArray, List.set_cons_zero, List.set_cons_succ]
          refine wpAnyH_ready (rs := [15]) (by kernel_rfl) (by simp) ?_
          refine AllReadyH.cons (o := { dst := some 93, op := _, type := _, pos := _, after := _, guard := _ }) rfl (fun K hK => ?_) AllReadyH.nil
          go_simp
          go_at_call 18
          refine (HRS.out _ HMv.out).mono ?_
          rintro e Wy ⟨AT, cT, RAT, RCT, rfl, hgT, hbx⟩
          try go_wp2_with fail
          have HXy := Lib.hid (HXv.out.below HXv.out.lt hbx)
          have HYy := Lib.hid (HYv.out.below HYv.out.lt hbx)
          have HBy := Lib.hid (HBv.out.trans (hbx.mono HBv.out.size))
          have HMy := Lib.hid (HMv.out.below hbx)
          have HSy := Lib.hid (HSv.out.below hbx)
          have HTy := Lib.hid hgT
          clear hgT
          clear hbx
          refine hK.out _ _ ?_ (fun hHeld => ?_)
          · exact ⟨HXy.out.cell 0, HXy.out.cell 1, HXy.out.cell 2, HXy.out.cell 3, HXy.out.cell 4, HXy.out.cell 5, HYy.out.cell 0, HYy.out.cell 1, HYy.out.cell 2, HYy.out.cell 3⟩
          clear hK K
          try simp only [Act.put, List.setIfInBounds_toArray, List.set_cons_zero, List.set_cons_succ]
          refine wpAnyH_ready (rs := [16]) (by kernel_rfl) (by simp) ?_
          refine AllReadyH.cons (o := { dst := some 94, op := _, type := _, pos := _, after := _, guard := _ }) rfl (fun K hK => ?_) AllReadyH.nil
          go_simp
          go_at_call 17
          refine (SameSums_c HSy.out HTy.out (fun _ _ => rfl)).mono ?_
          rintro e _ ⟨rfl, q16, rfl⟩
          try go_wp2_with fail
          have hbx := below_drewN (Below.refl Wy.heap.size Wy) q16
          have HXz := Lib.hid (HXy.out.below HXy.out.lt hbx)
          have HYz := Lib.hid (HYy.out.below HYy.out.lt hbx)
          have HBz := Lib.hid (HBy.out.trans (hbx.mono HBy.out.size))
          have HMz := Lib.hid (HMy.out.below hbx)
          clear hbx
          refine hK.out _ _ ?_ (fun hHeld => ?_)
          · exact ⟨HXz.out.cell 0, HXz.out.cell 1, HXz.out.cell 2, HXz.out.cell 3, HXz.out.cell 4, HXz.out.cell 5, HYz.out.cell 0, HYz.out.cell 1, HYz.out.cell 2, HYz.out.cell 3⟩
          clear hK K
          try simp only [Act.put, List.setIfInBounds_toArray, List.set_cons_zero, List.set_cons_succ]
          refine wpAnyH_take (i := 17) (oi := { dst := some 95, op := _, type := _, pos := _, after := _, guard := _ }) (v := ?_) rfl (by kernel_rfl) (by kernel_rfl) (by kernel_rfl) (fun _ _ _ h => h) (Or.inl ⟨by rfl, ?_⟩) (by assumption) ?_
          rotate_left
          · intro w' hSw
            try dsimp only at hSw
            go_simp
            try with_reducible rfl
          try simp only [Act.put, List.setIfInBounds_toArray, List.set_cons_zero, List.set_cons_succ]
          refine wpAnyH_take (i := 18) (oi := { dst := some 6, op := _, type := _, pos := _, after := _, guard := _ }) (v := ?_) rfl (by kernel_rfl) (by kernel_rfl) (by kernel_rfl) (fun _ _ _ h => h) (Or.inl ⟨by rfl, ?_⟩) (by assumption) ?_
          rotate_left
          · intro w' hSw
            try dsimp only at hSw
            go_simp
            try with_reducible rfl
          try simp only [Act.put, List.setIfInBounds_toArray, List.set_cons_zero, List.set_cons_succ]
          refine wpAnyH_done (by kernel_rfl) ?_ _
          go_wp2
          go_ret
          exact ⟨rfl, HBz.out⟩
end Go.Proofs.YtbgdoemealddpaaDoor
