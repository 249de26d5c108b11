/-
  SEALS: how many bytes stand ahead of the column. No conditions.
-/
import Derived.Test.YtbgdoemealddpaaDoorSla
namespace Go.Proofs.YtbgdoemealddpaaDoor
open Go.RowKit
set_option maxRecDepth 100000
set_option linter.unusedVariables false

theorem Head_no {N K S B : Int} (h : Wf4 N K S B) (hr : right23 N K S B = false) (w : World) : Calls Tryd.prog 14 #[.agg #[.int .i64 N, .int .i64 K, .int .i64 S, .int .i64 B]] w fun e w' => e = .returned (.int .i64 0) ∧ Below w.heap.size w w' := by
  have hb := (Below.refl w.heap.size w).alloc (Nat.le_refl _) (.cells #[.int .i64 N, .int .i64 K, .int .i64 S, .int .i64 B] 23)
  have hK := Blk.new w 23 #[.int .i64 N, .int .i64 K, .int .i64 S, .int .i64 B]
  have tl := ld_g23 hK rfl
  have HR := Lib.hid (Right_c h (w.alloc (.cells #[.int .i64 N, .int .i64 K, .int .i64 S, .int .i64 B] 23)))
  have HB := Lib.hid hb
  rw [hr] at HR
  clear hb hK hr
  go_enter Tryd.func14, Tryd.ntmps14
  go_wp2_with (first
    | (with_reducible refine wpList_load_var w.heap.size _ rfl tl ?_)
    | fail)
  refine HR.out.mono ?_
  rintro e W2 ⟨rfl, hb2⟩
  have HB2 := Lib.hid (HB.out.trans (hb2.mono HB.out.size))
  clear hb2
  go_wp2
  go_ret
  exact ⟨rfl, HB2.out⟩
set_option maxHeartbeats 2000000 in
theorem Head_yes {n k s b : Nat} (h : Wf4 n k s b) (hr : right23 n k s b = true) (w : World) : Calls Tryd.prog 14 #[.agg #[.int .i64 (n : Int), .int .i64 (k : Int), .int .i64 (s : Int), .int .i64 (b : Int)]] w fun e w' => e = .returned (.int .i64 (hdN n k (blkN s b) : Nat)) ∧ Below w.heap.size w w' := by
  have hx := of_decide_eq_true hr
  have hnk : n + k ≤ 255 := by omega
  have hb := (Below.refl w.heap.size w).alloc (Nat.le_refl _) (.cells #[.int .i64 (n : Int), .int .i64 (k : Int), .int .i64 (s : Int), .int .i64 (b : Int)] 23)
  have hK := Blk.new w 23 #[.int .i64 (n : Int), .int .i64 (k : Int), .int .i64 (s : Int), .int .i64 (b : Int)]
  have tl := ld_g23 hK rfl
  have HR := Lib.hid (Right_c h (w.alloc (.cells #[.int .i64 (n : Int), .int .i64 (k : Int), .int .i64 (s : Int), .int .i64 (b : Int)] 23)))
  rw [hr] at HR
  have hL := Blocks_yes h hr
  have hqb : blkN s b ≤ 33554440 := blkN_le (by omega) (by omega)
  change ∀ w, Calls _ _ _ w fun e w' => e = .returned (.int .i64 ((blkN s b : Nat) : Int)) ∧ _ at hL
  generalize blkN s b = Q at *
  have HL := Lib.hid hL
  have HB := Lib.hid hb
  have HK := Lib.hid hK
  have hv := hdN_le hnk hqb
  have hmul : ((4 : Int) * ((n : Int) + (k : Int))) * (Q : Int) = ((4 * (n + k) * Q : Nat) : Int) := by simp
  have hv2 : 4 * (n + k) * Q ≤ 34225528800 := by unfold hdN at hv; omega
  have s1 : IntKind.i64.wrap ((n : Int) + (k : Int)) = (n : Int) + k := IntWalk.i64_in _ (by omega)
  have s2 : IntKind.i64.wrap ((4 : Int) * ((n : Int) + (k : Int))) = (4 : Int) * ((n : Int) + k) := IntWalk.i64_in _ (by omega)
  have s3 : IntKind.i64.wrap (((4 : Int) * ((n : Int) + (k : Int))) * (Q : Int)) = ((4 * (n + k) * Q : Nat) : Int) := (IntWalk.i64_in _ (by rw [hmul]; omega)).trans hmul
  have hM := Lib.hid (show hdN n k Q = 24 + 4 * (n + k) * Q from rfl)
  clear hx hr hb hK hL hmul hv
  generalize 4 * (n + k) * Q = M at *
  have s4 : IntKind.i64.wrap ((20 : Int) + (M : Int)) = (20 : Int) + M := IntWalk.i64_in _ (by omega)
  have s5 : IntKind.i64.wrap ((20 : Int) + (M : Int) + 4) = (20 : Int) + M + 4 := IntWalk.i64_in _ (by omega)
  go_enter Tryd.func14, Tryd.ntmps14
  go_wp2_with (first
    | (with_reducible refine wpList_load_var w.heap.size _ rfl tl ?_)
    | fail)
  refine HR.out.mono ?_
  rintro e W2 ⟨rfl, hb2'⟩
  have HB2 := Lib.hid (HB.out.trans (hb2'.mono HB.out.size))
  have hk2 := HK.out.below HK.out.lt hb2'
  have HK2 := Lib.hid hk2
  clear hb2' hk2 HK HB tl HR
  go_wp2_with fail
  have y0 : W2.cell? ⟨w.heap.size, 0, none⟩ = some (.int .i64 (n : Int)) := HK2.out.cell 0
  have y1 : W2.cell? ⟨w.heap.size, 1, none⟩ = some (.int .i64 (k : Int)) := HK2.out.cell 1
  have y2 : W2.cell? ⟨w.heap.size, 2, none⟩ = some (.int .i64 (s : Int)) := HK2.out.cell 2
  have y3 : W2.cell? ⟨w.heap.size, 3, none⟩ = some (.int .i64 (b : Int)) := HK2.out.cell 3
  refine wp_region_held_drew (S := fun W' => W'.cell? ⟨w.heap.size, 0, none⟩ = some (.int .i64 (n : Int)) ∧ W'.cell? ⟨w.heap.size, 1, none⟩ = some (.int .i64 (k : Int)) ∧ W'.cell? ⟨w.heap.size, 2, none⟩ = some (.int .i64 (s : Int)) ∧ W'.cell? ⟨w.heap.size, 3, none⟩ = some (.int .i64 (b : Int))) (by kernel_rfl) ?_ (fun hHeld => ?_)
  · go_keep
  refine wpAnyH_take (i := 0) (oi := { dst := some 6, op := _, type := _, pos := _, after := _, guard := _ }) (v := ?_) rfl (by kernel_rfl) (by kernel_rfl) (by kernel_rfl) (fun _ _ _ h => h) (Or.inl ⟨by rfl, ?_⟩) (by assumption) ?_
  rotate_left
  · intro w' hSw
    try dsimp only at hSw
    go_simp
    try with_reducible rfl
  try simp only [Act.put, List.setIfInBounds_toArray, List.set_cons_zero, List.set_cons_succ]
  refine wpAnyH_take (i := 1) (oi := { dst := some 7, op := _, type := _, pos := _, after := _, guard := _ }) (v := ?_) rfl (by kernel_rfl) (by kernel_rfl) (by kernel_rfl) (fun _ _ _ h => h) (Or.inl ⟨by rfl, ?_⟩) (by assumption) ?_
  rotate_left
  · intro w' hSw
    try dsimp only at hSw
    go_simp
    try with_reducible rfl
  try simp only [Act.put, List.setIfInBounds_toArray, List.set_cons_zero, List.set_cons_succ]
  refine wpAnyH_take (i := 2) (oi := { dst := some 8, op := _, type := _, pos := _, after := _, guard := _ }) (v := ?_) rfl (by kernel_rfl) (by kernel_rfl) (by kernel_rfl) (fun _ _ _ h => h) (Or.inl ⟨by rfl, ?_⟩) (by assumption) ?_
  rotate_left
  · intro w' hSw
    try dsimp only at hSw
    go_simp
    try with_reducible rfl
  try simp only [Act.put, List.setIfInBounds_toArray, List.set_cons_zero, List.set_cons_succ]
  refine wpAnyH_take (i := 3) (oi := { dst := some 9, op := _, type := _, pos := _, after := _, guard := _ }) (v := ?_) rfl (by kernel_rfl) (by kernel_rfl) (by kernel_rfl) (fun _ _ _ h => h) (Or.inl ⟨by rfl, ?_⟩) (by assumption) ?_
  rotate_left
  · intro w' hSw
    try dsimp only at hSw
    go_simp
    try with_reducible rfl
  try simp only [Act.put, List.setIfInBounds_toArray, List.set_cons_zero, List.set_cons_succ]
  refine wpAnyH_take (i := 4) (oi := { dst := some 10, op := _, type := _, pos := _, after := _, guard := _ }) (v := ?_) rfl (by kernel_rfl) (by kernel_rfl) (by kernel_rfl) (fun _ _ _ h => h) (Or.inl ⟨by rfl, ?_⟩) (by assumption) ?_
  rotate_left
  · intro w' hSw
    try dsimp only at hSw
    go_simp
    try with_reducible rfl
  try simp only [Act.put, List.setIfInBounds_toArray, List.set_cons_zero, List.set_cons_succ]
  refine wpAnyH_take (i := 5) (oi := { dst := some 11, op := _, type := _, pos := _, after := _, guard := _ }) (v := ?_) rfl (by kernel_rfl) (by kernel_rfl) (by kernel_rfl) (fun _ _ _ h => h) (Or.inl ⟨by rfl, ?_⟩) (by assumption) ?_
  rotate_left
  · intro w' hSw
    try dsimp only at hSw
    go_simp
    try with_reducible rfl
  try simp only [Act.put, List.setIfInBounds_toArray, List.set_cons_zero, List.set_cons_succ]
  refine wpAnyH_take (i := 6) (oi := { dst := some 12, op := _, type := _, pos := _, after := _, guard := _ }) (v := ?_) rfl (by kernel_rfl) (by kernel_rfl) (by kernel_rfl) (fun _ _ _ h => h) (Or.inl ⟨by rfl, ?_⟩) (by assumption) ?_
  rotate_left
  · intro w' hSw
    try dsimp only at hSw
    go_simp
    try with_reducible rfl
  try simp only [Act.put, List.setIfInBounds_toArray, List.set_cons_zero, List.set_cons_succ]
  refine wpAnyH_ready (rs := [7]) (by kernel_rfl) (by simp) ?_
  refine AllReadyH.cons (o := { dst := some 13, op := _, type := _, pos := _, after := _, guard := _ }) rfl (fun K hK => ?_) AllReadyH.nil
  go_simp
  go_at_call 34
  refine (HL.out _).mono ?_
  rintro e W3 ⟨rfl, hb3⟩
  try go_wp2_with fail
  have HK3 := Lib.hid (HK2.out.drew.below HK2.out.drew.lt hb3)
  have HB3 := Lib.hid (HB2.out.drew.trans (hb3.mono HB2.out.drew.size))
  clear hb3
  refine hK.out _ _ ?_ (fun hHeld => ?_)
  · exact ⟨HK3.out.cell 0, HK3.out.cell 1, HK3.out.cell 2, HK3.out.cell 3⟩
  clear hK K
  try simp only [Act.put, List.setIfInBounds_toArray, List.set_cons_zero, List.set_cons_succ]
  refine wpAnyH_take (i := 8) (oi := { dst := some 14, op := _, type := _, pos := _, after := _, guard := _ }) (v := ?_) rfl (by kernel_rfl) (by kernel_rfl) (by kernel_rfl) (fun _ _ _ h => h) (Or.inl ⟨by rfl, ?_⟩) (by assumption) ?_
  rotate_left
  · intro w' hSw
    try dsimp only at hSw
    go_simp
    try with_reducible rfl
  try simp only [Act.put, List.setIfInBounds_toArray, List.set_cons_zero, List.set_cons_succ]
  refine wpAnyH_take (i := 9) (oi := { dst := some 15, op := _, type := _, pos := _, after := _, guard := _ }) (v := ?_) rfl (by kernel_rfl) (by kernel_rfl) (by kernel_rfl) (fun _ _ _ h => h) (Or.inl ⟨by rfl, ?_⟩) (by assumption) ?_
  rotate_left
  · intro w' hSw
    try dsimp only at hSw
    go_simp
    try with_reducible rfl
  try simp only [Act.put, List.setIfInBounds_toArray, List.set_cons_zero, List.set_cons_succ]
  refine wpAnyH_take (i := 10) (oi := { dst := some 16, op := _, type := _, pos := _, after := _, guard := _ }) (v := ?_) rfl (by kernel_rfl) (by kernel_rfl) (by kernel_rfl) (fun _ _ _ h => h) (Or.inl ⟨by rfl, ?_⟩) (by assumption) ?_
  rotate_left
  · intro w' hSw
    try dsimp only at hSw
    go_simp
    try with_reducible rfl
  try simp only [Act.put, List.setIfInBounds_toArray, List.set_cons_zero, List.set_cons_succ]
  refine wpAnyH_take (i := 11) (oi := { dst := some 2, op := _, type := _, pos := _, after := _, guard := _ }) (v := ?_) rfl (by kernel_rfl) (by kernel_rfl) (by kernel_rfl) (fun _ _ _ h => h) (Or.inl ⟨by rfl, ?_⟩) (by assumption) ?_
  rotate_left
  · intro w' hSw
    try dsimp only at hSw
    go_simp
    try with_reducible rfl
  try simp only [Act.put, List.setIfInBounds_toArray, List.set_cons_zero, List.set_cons_succ]
  refine wpAnyH_done (by kernel_rfl) ?_ _
  go_wp2
  go_ret
  exact ⟨ret_i64 (by rw [hM.out]; omega), HB3.out⟩
theorem Head_c {N K S B : Int} (h : Wf4 N K S B) (w : World) : Calls Tryd.prog 14 #[.agg #[.int .i64 N, .int .i64 K, .int .i64 S, .int .i64 B]] w fun e w' => e = .returned (.int .i64 (hd23 N K S B : Nat)) ∧ Below w.heap.size w w' := by
  cases hr : right23 N K S B with
  | false =>
    rw [hd23_no hr]
    exact Head_no h hr w
  | true =>
    obtain ⟨n, k, s, b, rfl, rfl, rfl, rfl, _⟩ := right23_nat hr
    rw [hd23_yes hr]
    exact Head_yes h hr w
set_option maxHeartbeats 2000000 in
theorem RHead_c {n k s b : Nat} (h : Wf4 n k s b) (hr : right23 n k s b = true) (w : World) : Calls Tryd.prog 16 #[.agg #[.int .i64 (n : Int), .int .i64 (k : Int), .int .i64 (s : Int), .int .i64 (b : Int)]] w fun e w' => e = .returned (.int .i64 (hdN n k (blkN s b) : Nat)) ∧ Below w.heap.size w w' := by
  have hx := of_decide_eq_true hr
  have hnk : n + k ≤ 255 := by omega
  have hb := (Below.refl w.heap.size w).alloc (Nat.le_refl _) (.cells #[.int .i64 (n : Int), .int .i64 (k : Int), .int .i64 (s : Int), .int .i64 (b : Int)] 36)
  have hK := Blk.new w 36 #[.int .i64 (n : Int), .int .i64 (k : Int), .int .i64 (s : Int), .int .i64 (b : Int)]
  have hL := RBlocks_c h hr
  have hqb : blkN s b ≤ 33554440 := blkN_le (by omega) (by omega)
  change ∀ w, Calls _ _ _ w fun e w' => e = .returned (.int .i64 ((blkN s b : Nat) : Int)) ∧ _ at hL
  generalize blkN s b = Q at *
  have HL := Lib.hid hL
  have HB2 := Lib.hid hb
  have HK2 := Lib.hid hK
  have hv := hdN_le hnk hqb
  have hmul : ((4 : Int) * ((n : Int) + (k : Int))) * (Q : Int) = ((4 * (n + k) * Q : Nat) : Int) := by simp
  have hv2 : 4 * (n + k) * Q ≤ 34225528800 := by unfold hdN at hv; omega
  have s1 : IntKind.i64.wrap ((n : Int) + (k : Int)) = (n : Int) + k := IntWalk.i64_in _ (by omega)
  have s2 : IntKind.i64.wrap ((4 : Int) * ((n : Int) + (k : Int))) = (4 : Int) * ((n : Int) + k) := IntWalk.i64_in _ (by omega)
  have s3 : IntKind.i64.wrap (((4 : Int) * ((n : Int) + (k : Int))) * (Q : Int)) = ((4 * (n + k) * Q : Nat) : Int) := (IntWalk.i64_in _ (by rw [hmul]; omega)).trans hmul
  have hM := Lib.hid (show hdN n k Q = 24 + 4 * (n + k) * Q from rfl)
  clear hx hr hb hK hL hmul hv
  generalize 4 * (n + k) * Q = M at *
  have s4 : IntKind.i64.wrap ((24 : Int) + (M : Int)) = (24 : Int) + M := IntWalk.i64_in _ (by omega)
  go_enter Tryd.func16, Tryd.ntmps16
  go_wp2_with fail
  obtain ⟨W2, hW2⟩ : ∃ W2, W2 = w.alloc (.cells #[.int .i64 (n : Int), .int .i64 (k : Int), .int .i64 (s : Int), .int .i64 (b : Int)] 36) := ⟨_, rfl⟩
  rw [← hW2] at HB2 HK2 ⊢
  clear hW2
  have y0 : W2.cell? ⟨w.heap.size, 0, none⟩ = some (.int .i64 (n : Int)) := HK2.out.cell 0
  have y1 : W2.cell? ⟨w.heap.size, 1, none⟩ = some (.int .i64 (k : Int)) := HK2.out.cell 1
  have y2 : W2.cell? ⟨w.heap.size, 2, none⟩ = some (.int .i64 (s : Int)) := HK2.out.cell 2
  have y3 : W2.cell? ⟨w.heap.size, 3, none⟩ = some (.int .i64 (b : Int)) := HK2.out.cell 3
  refine wp_region_held_drew (S := fun W' => W'.cell? ⟨w.heap.size, 0, none⟩ = some (.int .i64 (n : Int)) ∧ W'.cell? ⟨w.heap.size, 1, none⟩ = some (.int .i64 (k : Int)) ∧ W'.cell? ⟨w.heap.size, 2, none⟩ = some (.int .i64 (s : Int)) ∧ W'.cell? ⟨w.heap.size, 3, none⟩ = some (.int .i64 (b : Int))) (by kernel_rfl) ?_ (fun hHeld => ?_)
  · go_keep
  refine wpAnyH_take (i := 0) (oi := { dst := some 3, op := _, type := _, pos := _, after := _, guard := _ }) (v := ?_) rfl (by kernel_rfl) (by kernel_rfl) (by kernel_rfl) (fun _ _ _ h => h) (Or.inl ⟨by rfl, ?_⟩) (by assumption) ?_
  rotate_left
  · intro w' hSw
    try dsimp only at hSw
    go_simp
    try with_reducible rfl
  try simp only [Act.put, List.setIfInBounds_toArray, List.set_cons_zero, List.set_cons_succ]
  refine wpAnyH_take (i := 1) (oi := { dst := some 4, op := _, type := _, pos := _, after := _, guard := _ }) (v := ?_) rfl (by kernel_rfl) (by kernel_rfl) (by kernel_rfl) (fun _ _ _ h => h) (Or.inl ⟨by rfl, ?_⟩) (by assumption) ?_
  rotate_left
  · intro w' hSw
    try dsimp only at hSw
    go_simp
    try with_reducible rfl
  try simp only [Act.put, List.setIfInBounds_toArray, List.set_cons_zero, List.set_cons_succ]
  refine wpAnyH_take (i := 2) (oi := { dst := some 5, op := _, type := _, pos := _, after := _, guard := _ }) (v := ?_) rfl (by kernel_rfl) (by kernel_rfl) (by kernel_rfl) (fun _ _ _ h => h) (Or.inl ⟨by rfl, ?_⟩) (by assumption) ?_
  rotate_left
  · intro w' hSw
    try dsimp only at hSw
    go_simp
    try with_reducible rfl
  try simp only [Act.put, List.setIfInBounds_toArray, List.set_cons_zero, List.set_cons_succ]
  refine wpAnyH_take (i := 3) (oi := { dst := some 6, op := _, type := _, pos := _, after := _, guard := _ }) (v := ?_) rfl (by kernel_rfl) (by kernel_rfl) (by kernel_rfl) (fun _ _ _ h => h) (Or.inl ⟨by rfl, ?_⟩) (by assumption) ?_
  rotate_left
  · intro w' hSw
    try dsimp only at hSw
    go_simp
    try with_reducible rfl
  try simp only [Act.put, List.setIfInBounds_toArray, List.set_cons_zero, List.set_cons_succ]
  refine wpAnyH_take (i := 4) (oi := { dst := some 7, op := _, type := _, pos := _, after := _, guard := _ }) (v := ?_) rfl (by kernel_rfl) (by kernel_rfl) (by kernel_rfl) (fun _ _ _ h => h) (Or.inl ⟨by rfl, ?_⟩) (by assumption) ?_
  rotate_left
  · intro w' hSw
    try dsimp only at hSw
    go_simp
    try with_reducible rfl
  try simp only [Act.put, List.setIfInBounds_toArray, List.set_cons_zero, List.set_cons_succ]
  refine wpAnyH_take (i := 5) (oi := { dst := some 8, op := _, type := _, pos := _, after := _, guard := _ }) (v := ?_) rfl (by kernel_rfl) (by kernel_rfl) (by kernel_rfl) (fun _ _ _ h => h) (Or.inl ⟨by rfl, ?_⟩) (by assumption) ?_
  rotate_left
  · intro w' hSw
    try dsimp only at hSw
    go_simp
    try with_reducible rfl
  try simp only [Act.put, List.setIfInBounds_toArray, List.set_cons_zero, List.set_cons_succ]
  refine wpAnyH_take (i := 6) (oi := { dst := some 9, op := _, type := _, pos := _, after := _, guard := _ }) (v := ?_) rfl (by kernel_rfl) (by kernel_rfl) (by kernel_rfl) (fun _ _ _ h => h) (Or.inl ⟨by rfl, ?_⟩) (by assumption) ?_
  rotate_left
  · intro w' hSw
    try dsimp only at hSw
    go_simp
    try with_reducible rfl
  try simp only [Act.put, List.setIfInBounds_toArray, List.set_cons_zero, List.set_cons_succ]
  refine wpAnyH_ready (rs := [7]) (by kernel_rfl) (by simp) ?_
  refine AllReadyH.cons (o := { dst := some 10, op := _, type := _, pos := _, after := _, guard := _ }) rfl (fun K hK => ?_) AllReadyH.nil
  go_simp
  go_at_call 36
  refine (HL.out _).mono ?_
  rintro e W3 ⟨rfl, hb3⟩
  try go_wp2_with fail
  have HK3 := Lib.hid (HK2.out.drew.below HK2.out.drew.lt hb3)
  have HB3 := Lib.hid (HB2.out.drew.trans (hb3.mono HB2.out.drew.size))
  clear hb3
  refine hK.out _ _ ?_ (fun hHeld => ?_)
  · exact ⟨HK3.out.cell 0, HK3.out.cell 1, HK3.out.cell 2, HK3.out.cell 3⟩
  clear hK K
  try simp only [Act.put, List.setIfInBounds_toArray, List.set_cons_zero, List.set_cons_succ]
  refine wpAnyH_take (i := 8) (oi := { dst := some 11, op := _, type := _, pos := _, after := _, guard := _ }) (v := ?_) rfl (by kernel_rfl) (by kernel_rfl) (by kernel_rfl) (fun _ _ _ h => h) (Or.inl ⟨by rfl, ?_⟩) (by assumption) ?_
  rotate_left
  · intro w' hSw
    try dsimp only at hSw
    go_simp
    try with_reducible rfl
  try simp only [Act.put, List.setIfInBounds_toArray, List.set_cons_zero, List.set_cons_succ]
  refine wpAnyH_take (i := 9) (oi := { dst := some 12, op := _, type := _, pos := _, after := _, guard := _ }) (v := ?_) rfl (by kernel_rfl) (by kernel_rfl) (by kernel_rfl) (fun _ _ _ h => h) (Or.inl ⟨by rfl, ?_⟩) (by assumption) ?_
  rotate_left
  · intro w' hSw
    try dsimp only at hSw
    go_simp
    try with_reducible rfl
  try simp only [Act.put, List.setIfInBounds_toArray, List.set_cons_zero, List.set_cons_succ]
  refine wpAnyH_take (i := 10) (oi := { dst := some 2, op := _, type := _, pos := _, after := _, guard := _ }) (v := ?_) rfl (by kernel_rfl) (by kernel_rfl) (by kernel_rfl) (fun _ _ _ h => h) (Or.inl ⟨by rfl, ?_⟩) (by assumption) ?_
  rotate_left
  · intro w' hSw
    try dsimp only at hSw
    go_simp
    try with_reducible rfl
  try simp only [Act.put, List.setIfInBounds_toArray, List.set_cons_zero, List.set_cons_succ]
  refine wpAnyH_done (by kernel_rfl) ?_ _
  go_wp2
  go_ret
  exact ⟨ret_i64 (by rw [hM.out]; omega), HB3.out⟩
end Go.Proofs.YtbgdoemealddpaaDoor
