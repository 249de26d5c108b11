/-
  LAW 19: CentralParses (WRITTEN by wip/gen19r.py). No conditions (but that the table of months lies as the program's text lays it).
-/
import Derived.Test.YtacllgglpjdobaaDoorLaw19
import Derived.Test.YtacllgglpjdobaaDoorCnp
namespace Go.Proofs.YtacllgglpjdobaaDoor
open Go.RowKit
set_option maxRecDepth 100000
set_option linter.unusedVariables false

theorem RParseC_c (A : Option Addr) (n c : Nat) (l : List F) (w : World) (h : RowIn w A n c l) (hn : n ≤ 1000000) :
    Calls Tryd.prog 16 #[.slice A n c] w fun e w' => e = .returned (.tuple #[rcV (prC l).1, .int .i64 ((prC l).2.1 : Nat), .int .i64 (prC l).2.2]) ∧ Below w.heap.size w w' := by
  by_cases h1 : (lnW l).2 = 0
  · exact RParseC_yes A n c l w h hn h1
  · exact RParseC_no A n c l w h hn h1
set_option maxHeartbeats 8000000 in
theorem walk_CentralParses (w : World) (ht : TabM w) (A : Option Addr) (n c : Nat) (l : List F) (h : RowIn w A n c l) :
    Calls Tryd.prog 4 #[.slice A n c] w fun e w' => e = .returned (.bool true) ∧ Below w.heap.size w w' := by
  have HT := Lib.hid ht
  have H := Lib.hid h
  have HAL := Lib.hid alive19_c
  by_cases hb : 400 < n
  · have ib : (400 : Int) < (n : Int) := by omega
    clear ht h hb
    go_enter Tryd.func4, Tryd.ntmps4
    go_wp2_with fail
    refine (HAL.out _ HT.out).mono ?_
    rintro e W1 ⟨rfl, hb1⟩
    go_wp2
    go_ret
    exact ⟨rfl, hb1⟩
  · have ib : ¬ (400 : Int) < (n : Int) := by omega
    have HP := Lib.hid (fun W (hW : RowIn W A n c l) hT => ParseC_c A n c l W hW (by omega) hT)
    have HR := Lib.hid (fun W (hW : RowIn W A n c l) => RParseC_c A n c l W hW (by omega))
    have HA := Lib.hid (as_c (prC l).1)
    clear ht h hb
    generalize prC l = P at *
    obtain ⟨⟨⟨mm, ⟨y, mo, dd, hh, mi, s⟩, sum, p, z, nm⟩, k, o⟩, n9, e9⟩ := P
    unfold rcV rcC at *
    dsimp only at *
    go_enter Tryd.func4, Tryd.ntmps4
    go_wp2_with fail
    refine (HAL.out _ HT.out).mono ?_
    rintro e W1 ⟨rfl, hb1⟩
    have B1 := Lib.hid hb1
    clear hb1
    go_wp2_with fail
    refine (HP.out _ (H.out.below B1.out) (HT.out.below B1.out)).mono ?_
    rintro e W2 ⟨rfl, hb2⟩
    have hba := (Below.refl W2.heap.size W2).alloc (Nat.le_refl _) (.cells #[.int .i64 mm, .int .i64 y, .int .i64 mo, .int .i64 dd, .int .i64 hh, .int .i64 mi, .int .i64 s, .int .u32 sum, .int .u64 p, .int .u64 z, .string (S nm), .int .u32 k, .int .u64 o] 29)
    have B2 := Lib.hid ((B1.out.trans (hb2.mono B1.out.size)).trans (hba.mono (B1.out.trans (hb2.mono B1.out.size)).size))
    have K2 := Lib.hid (Blk.new W2 29 #[.int .i64 mm, .int .i64 y, .int .i64 mo, .int .i64 dd, .int .i64 hh, .int .i64 mi, .int .i64 s, .int .u32 sum, .int .u64 p, .int .u64 z, .string (S nm), .int .u32 k, .int .u64 o])
    clear hb2 hba B1
    go_wp2_with fail
    generalize W2.alloc (.cells #[.int .i64 mm, .int .i64 y, .int .i64 mo, .int .i64 dd, .int .i64 hh, .int .i64 mi, .int .i64 s, .int .u32 sum, .int .u64 p, .int .u64 z, .string (S nm), .int .u32 k, .int .u64 o] 29) = W3 at *
    generalize W2.heap.size = g3 at *
    refine (HR.out _ (H.out.below B2.out)).mono ?_
    rintro e W4 ⟨rfl, hb4⟩
    have hba := (Below.refl W4.heap.size W4).alloc (Nat.le_refl _) (.cells #[.int .i64 mm, .int .i64 y, .int .i64 mo, .int .i64 dd, .int .i64 hh, .int .i64 mi, .int .i64 s, .int .u32 sum, .int .u64 p, .int .u64 z, .string (S nm), .int .u32 k, .int .u64 o] 39)
    have BD : Hid (Below w.heap.size w (W4.alloc (.cells #[.int .i64 mm, .int .i64 y, .int .i64 mo, .int .i64 dd, .int .i64 hh, .int .i64 mi, .int .i64 s, .int .u32 sum, .int .u64 p, .int .u64 z, .string (S nm), .int .u32 k, .int .u64 o] 39)).drew) := below_drewL ((B2.out.trans (hb4.mono B2.out.size)).trans (hba.mono (B2.out.trans (hb4.mono B2.out.size)).size))
    have KD : Hid (Blk (W4.alloc (.cells #[.int .i64 mm, .int .i64 y, .int .i64 mo, .int .i64 dd, .int .i64 hh, .int .i64 mi, .int .i64 s, .int .u32 sum, .int .u64 p, .int .u64 z, .string (S nm), .int .u32 k, .int .u64 o] 39)).drew g3 29 #[.int .i64 mm, .int .i64 y, .int .i64 mo, .int .i64 dd, .int .i64 hh, .int .i64 mi, .int .i64 s, .int .u32 sum, .int .u64 p, .int .u64 z, .string (S nm), .int .u32 k, .int .u64 o]) := (show Blk (W4.alloc (.cells #[.int .i64 mm, .int .i64 y, .int .i64 mo, .int .i64 dd, .int .i64 hh, .int .i64 mi, .int .i64 s, .int .u32 sum, .int .u64 p, .int .u64 z, .string (S nm), .int .u32 k, .int .u64 o] 39)) g3 29 #[.int .i64 mm, .int .i64 y, .int .i64 mo, .int .i64 dd, .int .i64 hh, .int .i64 mi, .int .i64 s, .int .u32 sum, .int .u64 p, .int .u64 z, .string (S nm), .int .u32 k, .int .u64 o] from (K2.out.below K2.out.lt hb4).below (K2.out.below K2.out.lt hb4).lt hba)
    have JD : Hid (Blk (W4.alloc (.cells #[.int .i64 mm, .int .i64 y, .int .i64 mo, .int .i64 dd, .int .i64 hh, .int .i64 mi, .int .i64 s, .int .u32 sum, .int .u64 p, .int .u64 z, .string (S nm), .int .u32 k, .int .u64 o] 39)).drew W4.heap.size 39 #[.int .i64 mm, .int .i64 y, .int .i64 mo, .int .i64 dd, .int .i64 hh, .int .i64 mi, .int .i64 s, .int .u32 sum, .int .u64 p, .int .u64 z, .string (S nm), .int .u32 k, .int .u64 o]) := (show Blk (W4.alloc (.cells #[.int .i64 mm, .int .i64 y, .int .i64 mo, .int .i64 dd, .int .i64 hh, .int .i64 mi, .int .i64 s, .int .u32 sum, .int .u64 p, .int .u64 z, .string (S nm), .int .u32 k, .int .u64 o] 39)) W4.heap.size 39 #[.int .i64 mm, .int .i64 y, .int .i64 mo, .int .i64 dd, .int .i64 hh, .int .i64 mi, .int .i64 s, .int .u32 sum, .int .u64 p, .int .u64 z, .string (S nm), .int .u32 k, .int .u64 o] from Blk.new W4 39 #[.int .i64 mm, .int .i64 y, .int .i64 mo, .int .i64 dd, .int .i64 hh, .int .i64 mi, .int .i64 s, .int .u32 sum, .int .u64 p, .int .u64 z, .string (S nm), .int .u32 k, .int .u64 o])
    clear hb4 hba B2 K2
    go_upto_region 7 with fail
    generalize W4.heap.size = g4 at *
    refine wp_region_held_drew (S := fun W' => W'.cell? ⟨g3, 0, none⟩ = some (Value.int .i64 mm) ∧ W'.cell? ⟨g3, 1, none⟩ = some (Value.int .i64 y) ∧ W'.cell? ⟨g3, 2, none⟩ = some (Value.int .i64 mo) ∧ W'.cell? ⟨g3, 3, none⟩ = some (Value.int .i64 dd) ∧ W'.cell? ⟨g3, 4, none⟩ = some (Value.int .i64 hh) ∧ W'.cell? ⟨g3, 5, none⟩ = some (Value.int .i64 mi) ∧ W'.cell? ⟨g3, 6, none⟩ = some (Value.int .i64 s) ∧ W'.cell? ⟨g3, 7, none⟩ = some (Value.int .u32 sum) ∧ W'.cell? ⟨g3, 8, none⟩ = some (Value.int .u64 p) ∧ W'.cell? ⟨g3, 9, none⟩ = some (Value.int .u64 z) ∧ W'.cell? ⟨g3, 10, none⟩ = some (Value.string (S nm)) ∧ W'.cell? ⟨g3, 11, none⟩ = some (Value.int .u32 k) ∧ W'.cell? ⟨g3, 12, none⟩ = some (Value.int .u64 o) ∧ W'.cell? ⟨g4, 0, none⟩ = some (Value.int .i64 mm) ∧ W'.cell? ⟨g4, 1, none⟩ = some (Value.int .i64 y) ∧ W'.cell? ⟨g4, 2, none⟩ = some (Value.int .i64 mo) ∧ W'.cell? ⟨g4, 3, none⟩ = some (Value.int .i64 dd) ∧ W'.cell? ⟨g4, 4, none⟩ = some (Value.int .i64 hh) ∧ W'.cell? ⟨g4, 5, none⟩ = some (Value.int .i64 mi) ∧ W'.cell? ⟨g4, 6, none⟩ = some (Value.int .i64 s) ∧ W'.cell? ⟨g4, 7, none⟩ = some (Value.int .u32 sum) ∧ W'.cell? ⟨g4, 8, none⟩ = some (Value.int .u64 p) ∧ W'.cell? ⟨g4, 9, none⟩ = some (Value.int .u64 z) ∧ W'.cell? ⟨g4, 10, none⟩ = some (Value.string (S nm)) ∧ W'.cell? ⟨g4, 11, none⟩ = some (Value.int .u32 k) ∧ W'.cell? ⟨g4, 12, none⟩ = some (Value.int .u64 o)) (by kernel_rfl) ?_ (fun hHeld => ?_)
    · exact ⟨KD.out.cell 0, KD.out.cell 1, KD.out.cell 2, KD.out.cell 3, KD.out.cell 4, KD.out.cell 5, KD.out.cell 6, KD.out.cell 7, KD.out.cell 8, KD.out.cell 9, KD.out.cell 10, KD.out.cell 11, KD.out.cell 12, JD.out.cell 0, JD.out.cell 1, JD.out.cell 2, JD.out.cell 3, JD.out.cell 4, JD.out.cell 5, JD.out.cell 6, JD.out.cell 7, JD.out.cell 8, JD.out.cell 9, JD.out.cell 10, JD.out.cell 11, JD.out.cell 12⟩
    refine wpAnyH_take (i := 0) (oi := { dst := some 26, op := _, type := _, pos := _, after := _, guard := _ }) (v := ?_) rfl (by kernel_rfl) (by kernel_rfl) (by kernel_rfl) (fun _ _ _ h => h) (Or.inl ⟨by rfl, ?_⟩) (by assumption) ?_
    rotate_left
    · intro w' hSw
      try dsimp only at hSw
      go_simp
      try with_reducible rfl
    try simp only [Act.put, List.setIfInBounds_toArray, List.set_cons_zero, List.set_cons_succ]
    refine wpAnyH_take (i := 1) (oi := { dst := some 27, op := _, type := _, pos := _, after := _, guard := _ }) (v := ?_) rfl (by kernel_rfl) (by kernel_rfl) (by kernel_rfl) (fun _ _ _ h => h) (Or.inl ⟨by rfl, ?_⟩) (by assumption) ?_
    rotate_left
    · intro w' hSw
      try dsimp only at hSw
      go_simp
      try with_reducible rfl
    try simp only [Act.put, List.setIfInBounds_toArray, List.set_cons_zero, List.set_cons_succ]
    refine wpAnyH_take (i := 2) (oi := { dst := some 28, op := _, type := _, pos := _, after := _, guard := _ }) (v := ?_) rfl (by kernel_rfl) (by kernel_rfl) (by kernel_rfl) (fun _ _ _ h => h) (Or.inl ⟨by rfl, ?_⟩) (by assumption) ?_
    rotate_left
    · intro w' hSw
      try dsimp only at hSw
      go_simp
      try with_reducible rfl
    try simp only [Act.put, List.setIfInBounds_toArray, List.set_cons_zero, List.set_cons_succ]
    refine wpAnyH_take (i := 3) (oi := { dst := some 29, op := _, type := _, pos := _, after := _, guard := _ }) (v := ?_) rfl (by kernel_rfl) (by kernel_rfl) (by kernel_rfl) (fun _ _ _ h => h) (Or.inl ⟨by rfl, ?_⟩) (by assumption) ?_
    rotate_left
    · intro w' hSw
      try dsimp only at hSw
      go_simp
      try with_reducible rfl
    try simp only [Act.put, List.setIfInBounds_toArray, List.set_cons_zero, List.set_cons_succ]
    refine wpAnyH_take (i := 4) (oi := { dst := some 30, op := _, type := _, pos := _, after := _, guard := _ }) (v := ?_) rfl (by kernel_rfl) (by kernel_rfl) (by kernel_rfl) (fun _ _ _ h => h) (Or.inl ⟨by rfl, ?_⟩) (by assumption) ?_
    rotate_left
    · intro w' hSw
      try dsimp only at hSw
      go_simp
      try with_reducible rfl
    try simp only [Act.put, List.setIfInBounds_toArray, List.set_cons_zero, List.set_cons_succ]
    refine wpAnyH_take (i := 5) (oi := { dst := some 31, op := _, type := _, pos := _, after := _, guard := _ }) (v := ?_) rfl (by kernel_rfl) (by kernel_rfl) (by kernel_rfl) (fun _ _ _ h => h) (Or.inl ⟨by rfl, ?_⟩) (by assumption) ?_
    rotate_left
    · intro w' hSw
      try dsimp only at hSw
      go_simp
      try with_reducible rfl
    try simp only [Act.put, List.setIfInBounds_toArray, List.set_cons_zero, List.set_cons_succ]
    refine wpAnyH_take (i := 6) (oi := { dst := some 32, op := _, type := _, pos := _, after := _, guard := _ }) (v := ?_) rfl (by kernel_rfl) (by kernel_rfl) (by kernel_rfl) (fun _ _ _ h => h) (Or.inl ⟨by rfl, ?_⟩) (by assumption) ?_
    rotate_left
    · intro w' hSw
      try dsimp only at hSw
      go_simp
      try with_reducible rfl
    try simp only [Act.put, List.setIfInBounds_toArray, List.set_cons_zero, List.set_cons_succ]
    refine wpAnyH_take (i := 7) (oi := { dst := some 33, op := _, type := _, pos := _, after := _, guard := _ }) (v := ?_) rfl (by kernel_rfl) (by kernel_rfl) (by kernel_rfl) (fun _ _ _ h => h) (Or.inl ⟨by rfl, ?_⟩) (by assumption) ?_
    rotate_left
    · intro w' hSw
      try dsimp only at hSw
      go_simp
      try with_reducible rfl
    try simp only [Act.put, List.setIfInBounds_toArray, List.set_cons_zero, List.set_cons_succ]
    refine wpAnyH_take (i := 8) (oi := { dst := some 34, op := _, type := _, pos := _, after := _, guard := _ }) (v := ?_) rfl (by kernel_rfl) (by kernel_rfl) (by kernel_rfl) (fun _ _ _ h => h) (Or.inl ⟨by rfl, ?_⟩) (by assumption) ?_
    rotate_left
    · intro w' hSw
      try dsimp only at hSw
      go_simp
      try with_reducible rfl
    try simp only [Act.put, List.setIfInBounds_toArray, List.set_cons_zero, List.set_cons_succ]
    refine wpAnyH_take (i := 9) (oi := { dst := some 35, op := _, type := _, pos := _, after := _, guard := _ }) (v := ?_) rfl (by kernel_rfl) (by kernel_rfl) (by kernel_rfl) (fun _ _ _ h => h) (Or.inl ⟨by rfl, ?_⟩) (by assumption) ?_
    rotate_left
    · intro w' hSw
      try dsimp only at hSw
      go_simp
      try with_reducible rfl
    try simp only [Act.put, List.setIfInBounds_toArray, List.set_cons_zero, List.set_cons_succ]
    refine wpAnyH_take (i := 11) (oi := { dst := some 37, op := _, type := _, pos := _, after := _, guard := _ }) (v := ?_) rfl (by kernel_rfl) (by kernel_rfl) (by kernel_rfl) (fun _ _ _ h => h) (Or.inl ⟨by rfl, ?_⟩) (by assumption) ?_
    rotate_left
    · intro w' hSw
      try dsimp only at hSw
      go_simp
      try with_reducible rfl
    try simp only [Act.put, List.setIfInBounds_toArray, List.set_cons_zero, List.set_cons_succ]
    refine wpAnyH_ready (rs := [10]) (by kernel_rfl) (by simp) ?_
    refine AllReadyH.cons (o := { dst := some 36, op := _, type := _, pos := _, after := _, guard := _ }) rfl (fun K hK => ?_) AllReadyH.nil
    go_simp
    go_at_call 11
    refine (HA.out _).mono ?_
    rintro e W5 ⟨rfl, hb5⟩
    try go_wp2_with fail
    have K5 := Lib.hid (KD.out.below KD.out.lt hb5)
    have J5 := Lib.hid (JD.out.below JD.out.lt hb5)
    have B5 := Lib.hid (BD.out.trans (hb5.mono BD.out.size))
    clear hb5 KD JD BD
    refine hK.out _ _ ?_ (fun hHeld => ?_)
    · exact ⟨K5.out.cell 0, K5.out.cell 1, K5.out.cell 2, K5.out.cell 3, K5.out.cell 4, K5.out.cell 5, K5.out.cell 6, K5.out.cell 7, K5.out.cell 8, K5.out.cell 9, K5.out.cell 10, K5.out.cell 11, K5.out.cell 12, J5.out.cell 0, J5.out.cell 1, J5.out.cell 2, J5.out.cell 3, J5.out.cell 4, J5.out.cell 5, J5.out.cell 6, J5.out.cell 7, J5.out.cell 8, J5.out.cell 9, J5.out.cell 10, J5.out.cell 11, J5.out.cell 12⟩
    clear hK K
    try simp only [Act.put, List.setIfInBounds_toArray, List.set_cons_zero, List.set_cons_succ]
    refine wpAnyH_take (i := 12) (oi := { dst := some 38, op := _, type := _, pos := _, after := _, guard := _ }) (v := ?_) rfl (by kernel_rfl) (by kernel_rfl) (by kernel_rfl) (fun _ _ _ h => h) (Or.inl ⟨by rfl, ?_⟩) (by assumption) ?_
    rotate_left
    · intro w' hSw
      try dsimp only at hSw
      go_simp
      try with_reducible rfl
    try simp only [Act.put, List.setIfInBounds_toArray, List.set_cons_zero, List.set_cons_succ]
    refine wpAnyH_take (i := 13) (oi := { dst := some 39, op := _, type := _, pos := _, after := _, guard := _ }) (v := ?_) rfl (by kernel_rfl) (by kernel_rfl) (by kernel_rfl) (fun _ _ _ h => h) (Or.inl ⟨by rfl, ?_⟩) (by assumption) ?_
    rotate_left
    · intro w' hSw
      try dsimp only at hSw
      go_simp
      try with_reducible rfl
    try simp only [Act.put, List.setIfInBounds_toArray, List.set_cons_zero, List.set_cons_succ]
    refine wpAnyH_take (i := 14) (oi := { dst := some 2, op := _, type := _, pos := _, after := _, guard := _ }) (v := ?_) rfl (by kernel_rfl) (by kernel_rfl) (by kernel_rfl) (fun _ _ _ h => h) (Or.inl ⟨by rfl, ?_⟩) (by assumption) ?_
    rotate_left
    · intro w' hSw
      try dsimp only at hSw
      go_simp
      try with_reducible rfl
    try simp only [Act.put, List.setIfInBounds_toArray, List.set_cons_zero, List.set_cons_succ]
    refine wpAnyH_done (by kernel_rfl) ?_ _
    go_wp2
    go_ret
    exact ⟨rfl, B5.out⟩
end Go.Proofs.YtacllgglpjdobaaDoor
