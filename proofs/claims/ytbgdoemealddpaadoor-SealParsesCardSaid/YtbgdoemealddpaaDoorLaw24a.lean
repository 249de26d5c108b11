/-
  LAW 24's WALKS, first part: SealParses: it returns true, and writes nothing that was there. No conditions but that the table lies as the program's text lays it.
-/
import Derived.Test.YtbgdoemealddpaaDoorLaw24
namespace Go.Proofs.YtbgdoemealddpaaDoor
open Go.RowKit
set_option maxRecDepth 100000
set_option linter.unusedVariables false

set_option maxHeartbeats 8000000 in
theorem walk_SealParses (w : World) (ht : Tab w) (A : Option Addr) (len cap : Nat) (l : List F) (h : RowIn w A len cap l) :
    Calls Tryd.prog 4 #[.slice A len cap] w fun e w' => e = .returned (.bool true) ∧ Below w.heap.size w w' := by
  have HT := Lib.hid ht
  have HH := Lib.hid h
  have hm := h.row.max
  clear ht h
  go_enter Tryd.func4, Tryd.ntmps4
  go_wp2_with fail
  refine (alive24_c w HT.out).mono ?_
  rintro e W1 ⟨rfl, hb1⟩
  have HB1 := Lib.hid hb1
  have HT1 := Lib.hid (HT.out.below hb1 rfl)
  have HH1 := Lib.hid (HH.out.below hb1)
  clear hb1 HT HH
  by_cases h6 : 600 < len
  · have h6i : (600 : Int) < (len : Int) := by omega
    go_wp2
    go_ret
    exact ⟨rfl, HB1.out⟩
  · have h6i : ¬ (600 : Int) < (len : Int) := by omega
    go_wp2_with fail
    refine (Parse_c HT1.out HH1.out (by omega)).mono ?_
    rintro e W2 ⟨A2, c2, RA2, RC2, C2, cc2, rfl, hG2, hC2, hb2⟩
    have HRP := Lib.hid (RParse_c (HH1.out.below (hb2.trans (((Below.refl W2.heap.size W2).alloc (Nat.le_refl _) (.cells #[.int .i64 (pN l : Nat), .int .i64 (pK l : Nat), .int .i64 (pS l : Nat), .int .i64 (pB l : Nat), .int .i64 (pI l : Nat), .slice A2 (pM l) c2] 26)).mono hb2.size))) (by omega))
    unfold PrA at HRP
    generalize pN l = a1 at *
    generalize pK l = a2 at *
    generalize pS l = a3 at *
    generalize pB l = a4 at *
    generalize pI l = a5 at *
    generalize pM l = mm at *
    generalize tdR (l.drop 20) (qL l) = R at *
    generalize qL l = q at *
    generalize prE l = er at *
    generalize pC l = pc at *
    have hcm := hC2.row.max
    generalize hcl : pc.length = L at *
    clear hcl
    have e0 : (er == er) = true := by simp
    have ha2 := (Below.refl W2.heap.size W2).alloc (Nat.le_refl _) (.cells #[.int .i64 (a1 : Nat), .int .i64 (a2 : Nat), .int .i64 (a3 : Nat), .int .i64 (a4 : Nat), .int .i64 (a5 : Nat), .slice A2 mm c2] 26)
    have HX2 := Lib.hid (Blk.new W2 26 #[.int .i64 (a1 : Nat), .int .i64 (a2 : Nat), .int .i64 (a3 : Nat), .int .i64 (a4 : Nat), .int .i64 (a5 : Nat), .slice A2 mm c2])
    have HG2 := Lib.hid (hG2.below ha2)
    have HC2 := Lib.hid (hC2.below ha2)
    have HB2 := Lib.hid (HB1.out.trans ((hb2.trans (ha2.mono hb2.size)).mono HB1.out.size))
    obtain ⟨x3, hx3⟩ : ∃ x3, x3 = W2.heap.size := ⟨_, rfl⟩
    rw [← hx3] at HX2
    have HX3E := Lib.hid hx3
    clear hG2 hC2 hb2 ha2 hx3
    go_wp2_with fail
    rw [← HX3E.out]
    refine HRP.out.mono ?_
    rintro e W3 ⟨A3, c3, RA3, RC3, C3, cc3, rfl, hG3, hC3, hb3⟩
    have ha3 := (Below.refl W3.heap.size W3).alloc (Nat.le_refl _) (.cells #[.int .i64 (a1 : Nat), .int .i64 (a2 : Nat), .int .i64 (a3 : Nat), .int .i64 (a4 : Nat), .int .i64 (a5 : Nat), .slice A3 mm c3] 38)
    have hb3' := hb3.trans (ha3.mono hb3.size)
    have HXs := Lib.hid (HX2.out.below HX2.out.lt hb3')
    have HYs := Lib.hid (Blk.new W3 38 #[.int .i64 (a1 : Nat), .int .i64 (a2 : Nat), .int .i64 (a3 : Nat), .int .i64 (a4 : Nat), .int .i64 (a5 : Nat), .slice A3 mm c3])
    have HIs := Lib.hid (HG2.out.below hb3')
    have HJs := Lib.hid (hG3.below ha3)
    have HCs := Lib.hid (HC2.out.below hb3')
    have HDs := Lib.hid (hC3.below ha3)
    have HBs := Lib.hid (HB2.out.trans (hb3'.mono HB2.out.size))
    obtain ⟨x6, hx6⟩ : ∃ x6, x6 = W3.heap.size := ⟨_, rfl⟩
    rw [← hx6] at HYs
    have HX6E := Lib.hid hx6
    clear hG3 hC3 hb3 hb3' ha3 hx6 HX2 HG2 HC2 HB2 HRP
    go_wp2_with fail
    rw [← HX6E.out]
    obtain ⟨W4, hW4⟩ : ∃ W4, W4 = W3.alloc (.cells #[.int .i64 (a1 : Nat), .int .i64 (a2 : Nat), .int .i64 (a3 : Nat), .int .i64 (a4 : Nat), .int .i64 (a5 : Nat), .slice A3 mm c3] 38) := ⟨_, rfl⟩
    rw [← hW4] at HXs HYs HIs HJs HCs HDs HBs ⊢
    clear hW4 HX6E HX3E
    have hbx : Below W4.heap.size W4 W4.drew := below_drewN (Below.refl _ _) 1
    have HXd := Lib.hid (HXs.out.below HXs.out.lt hbx)
    have HYd := Lib.hid (HYs.out.below HYs.out.lt hbx)
    have HBd := Lib.hid (HBs.out.trans (hbx.mono HBs.out.size))
    have HId := Lib.hid (HIs.out.below hbx)
    have HJd := Lib.hid (HJs.out.below hbx)
    have HCd := Lib.hid (HCs.out.below hbx)
    have HDd := Lib.hid (HDs.out.below hbx)
    clear hbx
    refine wp_region_held_drew (S := fun W' => W'.cell? ⟨x3, 0, none⟩ = some (.int .i64 (a1 : Nat)) ∧ W'.cell? ⟨x3, 1, none⟩ = some (.int .i64 (a2 : Nat)) ∧ W'.cell? ⟨x3, 2, none⟩ = some (.int .i64 (a3 : Nat)) ∧ W'.cell? ⟨x3, 3, none⟩ = some (.int .i64 (a4 : Nat)) ∧ W'.cell? ⟨x3, 4, none⟩ = some (.int .i64 (a5 : Nat)) ∧ W'.cell? ⟨x3, 5, none⟩ = some (.slice A2 mm c2) ∧ W'.cell? ⟨x6, 0, none⟩ = some (.int .i64 (a1 : Nat)) ∧ W'.cell? ⟨x6, 1, none⟩ = some (.int .i64 (a2 : Nat)) ∧ W'.cell? ⟨x6, 2, none⟩ = some (.int .i64 (a3 : Nat)) ∧ W'.cell? ⟨x6, 3, none⟩ = some (.int .i64 (a4 : Nat)) ∧ W'.cell? ⟨x6, 4, none⟩ = some (.int .i64 (a5 : Nat)) ∧ W'.cell? ⟨x6, 5, none⟩ = some (.slice A3 mm c3)) (by kernel_rfl) ?_ (fun hHeld => ?_)
    · exact ⟨HXd.out.cell 0, HXd.out.cell 1, HXd.out.cell 2, HXd.out.cell 3, HXd.out.cell 4, HXd.out.cell 5, HYd.out.cell 0, HYd.out.cell 1, HYd.out.cell 2, HYd.out.cell 3, HYd.out.cell 4, HYd.out.cell 5⟩
    refine wpAnyH_take (i := 0) (oi := { dst := some 26, op := _, type := _, pos := _, after := _, guard := _ }) (v := ?_) rfl (by kernel_rfl) (by kernel_rfl) (by kernel_rfl) (fun _ _ _ h => h) (Or.inl ⟨by rfl, ?_⟩) (by assumption) ?_
    rotate_left
    · intro w' hSw
      try dsimp only at hSw
      go_simp
      try with_reducible rfl
    try simp only [Act.put, List.setIfInBounds_toArray, List.set_cons_zero, List.set_cons_succ]
    refine wpAnyH_take (i := 1) (oi := { dst := some 27, op := _, type := _, pos := _, after := _, guard := _ }) (v := ?_) rfl (by kernel_rfl) (by kernel_rfl) (by kernel_rfl) (fun _ _ _ h => h) (Or.inl ⟨by rfl, ?_⟩) (by assumption) ?_
    rotate_left
    · intro w' hSw
      try dsimp only at hSw
      go_simp
      try with_reducible rfl
    try simp only [Act.put, List.setIfInBounds_toArray, List.set_cons_zero, List.set_cons_succ]
    refine wpAnyH_take (i := 2) (oi := { dst := some 28, op := _, type := _, pos := _, after := _, guard := _ }) (v := ?_) rfl (by kernel_rfl) (by kernel_rfl) (by kernel_rfl) (fun _ _ _ h => h) (Or.inl ⟨by rfl, ?_⟩) (by assumption) ?_
    rotate_left
    · intro w' hSw
      try dsimp only at hSw
      go_simp
      try with_reducible rfl
    try simp only [Act.put, List.setIfInBounds_toArray, List.set_cons_zero, List.set_cons_succ]
    refine wpAnyH_take (i := 3) (oi := { dst := some 29, op := _, type := _, pos := _, after := _, guard := _ }) (v := ?_) rfl (by kernel_rfl) (by kernel_rfl) (by kernel_rfl) (fun _ _ _ h => h) (Or.inl ⟨by rfl, ?_⟩) (by assumption) ?_
    rotate_left
    · intro w' hSw
      try dsimp only at hSw
      go_simp
      try with_reducible rfl
    try simp only [Act.put, List.setIfInBounds_toArray, List.set_cons_zero, List.set_cons_succ]
    refine wpAnyH_take (i := 4) (oi := { dst := some 30, op := _, type := _, pos := _, after := _, guard := _ }) (v := ?_) rfl (by kernel_rfl) (by kernel_rfl) (by kernel_rfl) (fun _ _ _ h => h) (Or.inl ⟨by rfl, ?_⟩) (by assumption) ?_
    rotate_left
    · intro w' hSw
      try dsimp only at hSw
      go_simp
      try with_reducible rfl
    try simp only [Act.put, List.setIfInBounds_toArray, List.set_cons_zero, List.set_cons_succ]
    refine wpAnyH_take (i := 6) (oi := { dst := some 32, op := _, type := _, pos := _, after := _, guard := _ }) (v := ?_) rfl (by kernel_rfl) (by kernel_rfl) (by kernel_rfl) (fun _ _ _ h => h) (Or.inl ⟨by rfl, ?_⟩) (by assumption) ?_
    rotate_left
    · intro w' hSw
      try dsimp only at hSw
      go_simp
      try with_reducible rfl
    try simp only [Act.put, List.setIfInBounds_toArray, List.set_cons_zero, List.set_cons_succ]
    refine wpAnyH_ready (rs := [5]) (by kernel_rfl) (by simp) ?_
    refine AllReadyH.cons (o := { dst := some 31, op := _, type := _, pos := _, after := _, guard := _ }) rfl (fun K hK => ?_) AllReadyH.nil
    go_simp
    go_at_call 11
    refine (as_c a1 a2 a3 a4 a5 A2 mm c2 _).mono ?_
    rintro e Wt ⟨rfl, hbx⟩
    try go_wp2_with fail
    have HXt := Lib.hid (HXd.out.below HXd.out.lt hbx)
    have HYt := Lib.hid (HYd.out.below HYd.out.lt hbx)
    have HBt := Lib.hid (HBd.out.trans (hbx.mono HBd.out.size))
    have HIt := Lib.hid (HId.out.below hbx)
    have HJt := Lib.hid (HJd.out.below hbx)
    have HCt := Lib.hid (HCd.out.below hbx)
    have HDt := Lib.hid (HDd.out.below hbx)
    clear hbx
    refine hK.out _ _ ?_ (fun hHeld => ?_)
    · exact ⟨HXt.out.cell 0, HXt.out.cell 1, HXt.out.cell 2, HXt.out.cell 3, HXt.out.cell 4, HXt.out.cell 5, HYt.out.cell 0, HYt.out.cell 1, HYt.out.cell 2, HYt.out.cell 3, HYt.out.cell 4, HYt.out.cell 5⟩
    clear hK K
    try simp only [Act.put, List.setIfInBounds_toArray, List.set_cons_zero, List.set_cons_succ]
    refine wpAnyH_ready (rs := [7]) (by kernel_rfl) (by simp) ?_
    refine AllReadyH.cons (o := { dst := some 33, op := _, type := _, pos := _, after := _, guard := _ }) rfl (fun K hK => ?_) AllReadyH.nil
    go_simp
    go_at_call 21
    refine (same_c a1 a2 a3 a4 a5 HIt.out HJt.out (fun _ _ => rfl)).mono ?_
    rintro e Wu ⟨rfl, hbx⟩
    try go_wp2_with fail
    have HXu := Lib.hid (HXt.out.below HXt.out.lt hbx)
    have HYu := Lib.hid (HYt.out.below HYt.out.lt hbx)
    have HBu := Lib.hid (HBt.out.trans (hbx.mono HBt.out.size))
    have HIu := Lib.hid (HIt.out.below hbx)
    have HJu := Lib.hid (HJt.out.below hbx)
    have HCu := Lib.hid (HCt.out.below hbx)
    have HDu := Lib.hid (HDt.out.below hbx)
    clear hbx
    refine hK.out _ _ ?_ (fun hHeld => ?_)
    · exact ⟨HXu.out.cell 0, HXu.out.cell 1, HXu.out.cell 2, HXu.out.cell 3, HXu.out.cell 4, HXu.out.cell 5, HYu.out.cell 0, HYu.out.cell 1, HYu.out.cell 2, HYu.out.cell 3, HYu.out.cell 4, HYu.out.cell 5⟩
    clear hK K
    try simp only [Act.put, List.setIfInBounds_toArray, List.set_cons_zero, List.set_cons_succ]
    refine wpAnyH_take (i := 8) (oi := { dst := some 34, op := _, type := _, pos := _, after := _, guard := _ }) (v := ?_) rfl (by kernel_rfl) (by kernel_rfl) (by kernel_rfl) (fun _ _ _ h => h) (Or.inl ⟨by rfl, ?_⟩) (by assumption) ?_
    rotate_left
    · intro w' hSw
      try dsimp only at hSw
      go_simp
      try with_reducible rfl
    try simp only [Act.put, List.setIfInBounds_toArray, List.set_cons_zero, List.set_cons_succ]
    refine wpAnyH_take (i := 9) (oi := { dst := some 35, op := _, type := _, pos := _, after := _, guard := _ }) (v := ?_) rfl (by kernel_rfl) (by kernel_rfl) (by kernel_rfl) (fun _ _ _ h => h) (Or.inl ⟨by rfl, ?_⟩) (by assumption) ?_
    rotate_left
    · intro w' hSw
      try dsimp only at hSw
      go_simp
      try with_reducible rfl
    try simp only [Act.put, List.setIfInBounds_toArray, List.set_cons_zero, List.set_cons_succ]
    refine wpAnyH_take (i := 10) (oi := { dst := some 36, op := _, type := _, pos := _, after := _, guard := _ }) (v := ?_) rfl (by kernel_rfl) (by kernel_rfl) (by kernel_rfl) (fun _ _ _ h => h) (Or.inl ⟨by rfl, ?_⟩) (by assumption) ?_
    rotate_left
    · intro w' hSw
      try dsimp only at hSw
      go_simp
      try with_reducible rfl
    try simp only [Act.put, List.setIfInBounds_toArray, List.set_cons_zero, List.set_cons_succ]
    refine wpAnyH_take (i := 11) (oi := { dst := some 37, op := _, type := _, pos := _, after := _, guard := _ }) (v := ?_) rfl (by kernel_rfl) (by kernel_rfl) (by kernel_rfl) (fun _ _ _ h => h) (Or.inl ⟨by rfl, ?_⟩) (by assumption) ?_
    rotate_left
    · intro w' hSw
      try dsimp only at hSw
      go_simp
      try with_reducible rfl
    try simp only [Act.put, List.setIfInBounds_toArray, List.set_cons_zero, List.set_cons_succ]
    refine wpAnyH_ready (rs := [12]) (by kernel_rfl) (by simp) ?_
    refine AllReadyH.cons (o := { dst := some 38, op := _, type := _, pos := _, after := _, guard := _ }) rfl (fun K hK => ?_) AllReadyH.nil
    go_simp
    go_at_call 12
    refine (Same_c C2 C3 L cc2 cc3 pc pc _ HCu.out.row HDu.out.row rfl).mono ?_
    rintro e _ ⟨rfl, q12, rfl⟩
    try go_wp2_with fail
    have hbx := below_drewN (Below.refl Wu.heap.size Wu) q12
    have HXz := Lib.hid (HXu.out.below HXu.out.lt hbx)
    have HYz := Lib.hid (HYu.out.below HYu.out.lt hbx)
    have HBz := Lib.hid (HBu.out.trans (hbx.mono HBu.out.size))
    have HIz := Lib.hid (HIu.out.below hbx)
    have HJz := Lib.hid (HJu.out.below hbx)
    have HCz := Lib.hid (HCu.out.below hbx)
    have HDz := Lib.hid (HDu.out.below hbx)
    clear hbx
    refine hK.out _ _ ?_ (fun hHeld => ?_)
    · exact ⟨HXz.out.cell 0, HXz.out.cell 1, HXz.out.cell 2, HXz.out.cell 3, HXz.out.cell 4, HXz.out.cell 5, HYz.out.cell 0, HYz.out.cell 1, HYz.out.cell 2, HYz.out.cell 3, HYz.out.cell 4, HYz.out.cell 5⟩
    clear hK K
    try simp only [Act.put, List.setIfInBounds_toArray, List.set_cons_zero, List.set_cons_succ]
    refine wpAnyH_take (i := 13) (oi := { dst := some 39, op := _, type := _, pos := _, after := _, guard := _ }) (v := ?_) rfl (by kernel_rfl) (by kernel_rfl) (by kernel_rfl) (fun _ _ _ h => h) (Or.inl ⟨by rfl, ?_⟩) (by assumption) ?_
    rotate_left
    · intro w' hSw
      try dsimp only at hSw
      go_simp
      try with_reducible rfl
    try simp only [Act.put, List.setIfInBounds_toArray, List.set_cons_zero, List.set_cons_succ]
    refine wpAnyH_take (i := 14) (oi := { dst := some 2, op := _, type := _, pos := _, after := _, guard := _ }) (v := ?_) rfl (by kernel_rfl) (by kernel_rfl) (by kernel_rfl) (fun _ _ _ h => h) (Or.inl ⟨by rfl, ?_⟩) (by assumption) ?_
    rotate_left
    · intro w' hSw
      try dsimp only at hSw
      go_simp
      try with_reducible rfl
    try simp only [Act.put, List.setIfInBounds_toArray, List.set_cons_zero, List.set_cons_succ]
    refine wpAnyH_done (by kernel_rfl) ?_ _
    go_wp2
    go_ret
    exact ⟨rfl, HBz.out⟩
end Go.Proofs.YtbgdoemealddpaaDoor
