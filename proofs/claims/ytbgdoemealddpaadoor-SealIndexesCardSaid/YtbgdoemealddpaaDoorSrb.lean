/-
  STRIPES: how many blocks a column has: the program's, and the document's. No conditions.
-/
import Derived.Test.YtbgdoemealddpaaDoorSra
namespace Go.Proofs.YtbgdoemealddpaaDoor
open Go.RowKit
set_option maxRecDepth 100000
set_option linter.unusedVariables false

theorem Blocks_no {N K S B : Int} (h : Wf4 N K S B) (hr : right23 N K S B = false) (w : World) : Calls Tryd.prog 34 #[.agg #[.int .i64 N, .int .i64 K, .int .i64 S, .int .i64 B]] w fun e w' => e = .returned (.int .i64 0) ∧ Below w.heap.size w w' := by
  have hb := (Below.refl w.heap.size w).alloc (Nat.le_refl _) (.cells #[.int .i64 N, .int .i64 K, .int .i64 S, .int .i64 B] 23)
  have hK := Blk.new w 23 #[.int .i64 N, .int .i64 K, .int .i64 S, .int .i64 B]
  have tl := ld_g23 hK rfl
  have HR := Lib.hid (Right_c h (w.alloc (.cells #[.int .i64 N, .int .i64 K, .int .i64 S, .int .i64 B] 23)))
  have HB := Lib.hid hb
  rw [hr] at HR
  clear hb hK hr
  go_enter Tryd.func34, Tryd.ntmps34
  go_wp2_with (first
    | (with_reducible refine wpList_load_var w.heap.size _ rfl tl ?_)
    | fail)
  refine HR.out.mono ?_
  rintro e W2 ⟨rfl, hb2⟩
  have HB2 := Lib.hid (HB.out.trans (hb2.mono HB.out.size))
  clear hb2
  go_wp2
  go_ret
  exact ⟨rfl, HB2.out⟩
set_option maxHeartbeats 2000000 in
theorem Blocks_yes {N K : Int} {s b : Nat} (h : Wf4 N K s b) (hr : right23 N K s b = true) (w : World) : Calls Tryd.prog 34 #[.agg #[.int .i64 N, .int .i64 K, .int .i64 (s : Int), .int .i64 (b : Int)]] w fun e w' => e = .returned (.int .i64 (((8 + s + b - 1) / b : Nat) : Int)) ∧ Below w.heap.size w w' := by
  have hx := of_decide_eq_true hr
  have hs : s ≤ 16777216 := by omega
  have hb1 : 1 ≤ b := by omega
  have hb2 : b ≤ 16777216 := by omega
  have hb := (Below.refl w.heap.size w).alloc (Nat.le_refl _) (.cells #[.int .i64 N, .int .i64 K, .int .i64 (s : Int), .int .i64 (b : Int)] 23)
  have hK := Blk.new w 23 #[.int .i64 N, .int .i64 K, .int .i64 (s : Int), .int .i64 (b : Int)]
  have tl := ld_g23 hK rfl
  have hL := Long_c h
  unfold long23 at hL
  rw [if_pos hr] at hL
  have HR := Lib.hid (Right_c h (w.alloc (.cells #[.int .i64 N, .int .i64 K, .int .i64 (s : Int), .int .i64 (b : Int)] 23)))
  rw [hr] at HR
  have HB := Lib.hid hb
  have HK := Lib.hid hK
  have HL := Lib.hid hL
  obtain ⟨Q, hQ⟩ : ∃ Q, Q = (8 + s + b - 1) / b := ⟨_, rfl⟩
  have hqb : Q ≤ 33554440 := by rw [hQ]; exact Nat.le_trans (Nat.div_le_self _ _) (by omega)
  have hq : (((8 : Int) + s) + b - 1).tdiv b = (Q : Int) := by
    rw [hQ, show ((8 : Int) + s) + b - 1 = ((8 + s + b - 1 : Nat) : Int) by omega]
    rfl
  have HQ := Lib.hid hq
  have s1 : IntKind.i64.wrap ((8 : Int) + (s : Int) + (b : Int)) = (8 : Int) + s + b := IntWalk.i64_in _ (by omega)
  have s2 : IntKind.i64.wrap ((8 : Int) + (s : Int) + (b : Int) - 1) = (8 : Int) + s + b - 1 := IntWalk.i64_in _ (by omega)
  have b0 : ((b : Int) == 0) = false := by rw [beq_eq_false_iff_ne]; omega
  have b0n : ¬ b = 0 := by omega
  rw [← hQ]
  clear hQ
  have s3 : IntKind.i64.wrap (((8 : Int) + (s : Int) + (b : Int) - 1).tdiv b) = ((8 : Int) + s + b - 1).tdiv b := IntWalk.i64_in _ (by rw [hq]; omega)
  clear hx hr hb hK hL hq
  go_enter Tryd.func34, Tryd.ntmps34
  go_wp2_with (first
    | (with_reducible refine wpList_load_var w.heap.size _ rfl tl ?_)
    | fail)
  refine HR.out.mono ?_
  rintro e W2 ⟨rfl, hb2'⟩
  have HB2 := Lib.hid (HB.out.trans (hb2'.mono HB.out.size))
  have hk2 := HK.out.below HK.out.lt hb2'
  have HK2 := Lib.hid hk2
  clear hb2' hk2 HK HB tl HR
  go_wp2_with fail
  have y0 : W2.cell? ⟨w.heap.size, 0, none⟩ = some (.int .i64 N) := HK2.out.cell 0
  have y1 : W2.cell? ⟨w.heap.size, 1, none⟩ = some (.int .i64 K) := HK2.out.cell 1
  have y2 : W2.cell? ⟨w.heap.size, 2, none⟩ = some (.int .i64 (s : Int)) := HK2.out.cell 2
  have y3 : W2.cell? ⟨w.heap.size, 3, none⟩ = some (.int .i64 (b : Int)) := HK2.out.cell 3
  refine wp_region_held_drew (S := fun W' => W'.cell? ⟨w.heap.size, 0, none⟩ = some (.int .i64 N) ∧ W'.cell? ⟨w.heap.size, 1, none⟩ = some (.int .i64 K) ∧ W'.cell? ⟨w.heap.size, 2, none⟩ = some (.int .i64 (s : Int)) ∧ W'.cell? ⟨w.heap.size, 3, none⟩ = some (.int .i64 (b : Int))) (by kernel_rfl) ?_ (fun hHeld => ?_)
  · go_keep
  refine wpAnyH_take (i := 0) (oi := { dst := some 6, op := _, type := _, pos := _, after := _, guard := _ }) (v := ?_) rfl (by kernel_rfl) (by kernel_rfl) (by kernel_rfl) (fun _ _ _ h => h) (Or.inl ⟨by rfl, ?_⟩) (by assumption) ?_
  rotate_left
  · intro w' hSw
    try dsimp only at hSw
    go_simp
    try with_reducible rfl
  try simp only [Act.put, List.setIfInBounds_toArray, List.set_cons_zero, List.set_cons_succ]
  refine wpAnyH_take (i := 2) (oi := { dst := some 8, op := _, type := _, pos := _, after := _, guard := _ }) (v := ?_) rfl (by kernel_rfl) (by kernel_rfl) (by kernel_rfl) (fun _ _ _ h => h) (Or.inl ⟨by rfl, ?_⟩) (by assumption) ?_
  rotate_left
  · intro w' hSw
    try dsimp only at hSw
    go_simp
    try with_reducible rfl
  try simp only [Act.put, List.setIfInBounds_toArray, List.set_cons_zero, List.set_cons_succ]
  refine wpAnyH_take (i := 3) (oi := { dst := some 9, op := _, type := _, pos := _, after := _, guard := _ }) (v := ?_) rfl (by kernel_rfl) (by kernel_rfl) (by kernel_rfl) (fun _ _ _ h => h) (Or.inl ⟨by rfl, ?_⟩) (by assumption) ?_
  rotate_left
  · intro w' hSw
    try dsimp only at hSw
    go_simp
    try with_reducible rfl
  try simp only [Act.put, List.setIfInBounds_toArray, List.set_cons_zero, List.set_cons_succ]
  refine wpAnyH_take (i := 6) (oi := { dst := some 12, op := _, type := _, pos := _, after := _, guard := _ }) (v := ?_) rfl (by kernel_rfl) (by kernel_rfl) (by kernel_rfl) (fun _ _ _ h => h) (Or.inl ⟨by rfl, ?_⟩) (by assumption) ?_
  rotate_left
  · intro w' hSw
    try dsimp only at hSw
    go_simp
    try with_reducible rfl
  try simp only [Act.put, List.setIfInBounds_toArray, List.set_cons_zero, List.set_cons_succ]
  refine wpAnyH_take (i := 7) (oi := { dst := some 13, op := _, type := _, pos := _, after := _, guard := _ }) (v := ?_) rfl (by kernel_rfl) (by kernel_rfl) (by kernel_rfl) (fun _ _ _ h => h) (Or.inl ⟨by rfl, ?_⟩) (by assumption) ?_
  rotate_left
  · intro w' hSw
    try dsimp only at hSw
    go_simp
    try with_reducible rfl
  try simp only [Act.put, List.setIfInBounds_toArray, List.set_cons_zero, List.set_cons_succ]
  refine wpAnyH_ready (rs := [1]) (by kernel_rfl) (by simp) ?_
  refine AllReadyH.cons (o := { dst := some 7, op := _, type := _, pos := _, after := _, guard := _ }) rfl (fun K hK => ?_) AllReadyH.nil
  go_simp
  go_at_call 24
  refine (HL.out _).mono ?_
  rintro e W3 ⟨rfl, hb3⟩
  try go_wp2_with fail
  have HK3 := Lib.hid (HK2.out.drew.below HK2.out.drew.lt hb3)
  have HB3 := Lib.hid (HB2.out.drew.trans (hb3.mono HB2.out.drew.size))
  clear hb3
  refine hK.out _ _ ?_ (fun hHeld => ?_)
  · exact ⟨HK3.out.cell 0, HK3.out.cell 1, HK3.out.cell 2, HK3.out.cell 3⟩
  clear hK K
  try simp only [Act.put, List.setIfInBounds_toArray, List.set_cons_zero, List.set_cons_succ]
  refine wpAnyH_take (i := 4) (oi := { dst := some 10, op := _, type := _, pos := _, after := _, guard := _ }) (v := ?_) rfl (by kernel_rfl) (by kernel_rfl) (by kernel_rfl) (fun _ _ _ h => h) (Or.inl ⟨by rfl, ?_⟩) (by assumption) ?_
  rotate_left
  · intro w' hSw
    try dsimp only at hSw
    go_simp
    try with_reducible rfl
  try simp only [Act.put, List.setIfInBounds_toArray, List.set_cons_zero, List.set_cons_succ]
  refine wpAnyH_take (i := 5) (oi := { dst := some 11, op := _, type := _, pos := _, after := _, guard := _ }) (v := ?_) rfl (by kernel_rfl) (by kernel_rfl) (by kernel_rfl) (fun _ _ _ h => h) (Or.inl ⟨by rfl, ?_⟩) (by assumption) ?_
  rotate_left
  · intro w' hSw
    try dsimp only at hSw
    go_simp
    try with_reducible rfl
  try simp only [Act.put, List.setIfInBounds_toArray, List.set_cons_zero, List.set_cons_succ]
  refine wpAnyH_take (i := 8) (oi := { dst := some 14, op := _, type := _, pos := _, after := _, guard := _ }) (v := ?_) rfl (by kernel_rfl) (by kernel_rfl) (by kernel_rfl) (fun _ _ _ h => h) (Or.inl ⟨by rfl, ?_⟩) (by assumption) ?_
  rotate_left
  · intro w' hSw
    try dsimp only at hSw
    go_simp
    try with_reducible rfl
  try simp only [Act.put, List.setIfInBounds_toArray, List.set_cons_zero, List.set_cons_succ]
  refine wpAnyH_take (i := 9) (oi := { dst := some 2, op := _, type := _, pos := _, after := _, guard := _ }) (v := ?_) rfl (by kernel_rfl) (by kernel_rfl) (by kernel_rfl) (fun _ _ _ h => h) (Or.inl ⟨by rfl, ?_⟩) (by assumption) ?_
  rotate_left
  · intro w' hSw
    try dsimp only at hSw
    go_simp
    try with_reducible rfl
  try simp only [Act.put, List.setIfInBounds_toArray, List.set_cons_zero, List.set_cons_succ]
  refine wpAnyH_done (by kernel_rfl) ?_ _
  go_wp2
  go_ret
  exact ⟨ret_i64 HQ.out, HB3.out⟩
theorem blk_count {s b n : Nat} (hb : 1 ≤ b) (h1 : 8 + s ≤ n * b) (h2 : n * b < 8 + s + b) : n = (8 + s + b - 1) / b := by
  have h3 : (8 + s + b - 1) / b < n + 1 := by
    rw [Nat.div_lt_iff_lt_mul (by omega), Nat.add_mul]
    omega
  have h4 : n ≤ (8 + s + b - 1) / b := by
    rw [Nat.le_div_iff_mul_le (by omega)]
    omega
  omega
set_option maxHeartbeats 1000000 in
theorem RBlocks_c {N K : Int} {s b : Nat} (h : Wf4 N K s b) (hr : right23 N K s b = true) (w : World) : Calls Tryd.prog 36 #[.agg #[.int .i64 N, .int .i64 K, .int .i64 (s : Int), .int .i64 (b : Int)]] w fun e w' => e = .returned (.int .i64 (((8 + s + b - 1) / b : Nat) : Int)) ∧ Below w.heap.size w w' := by
  have hx := of_decide_eq_true hr
  have hs : s ≤ 16777216 := by omega
  have hb1 : 1 ≤ b := by omega
  have hb2 : b ≤ 16777216 := by omega
  have hb := (Below.refl w.heap.size w).alloc (Nat.le_refl _) (.cells #[.int .i64 N, .int .i64 K, .int .i64 (s : Int), .int .i64 (b : Int)] 36)
  have hK := Blk.new w 36 #[.int .i64 N, .int .i64 K, .int .i64 (s : Int), .int .i64 (b : Int)]
  have z2 : (w.alloc (.cells #[.int .i64 N, .int .i64 K, .int .i64 (s : Int), .int .i64 (b : Int)] 36)).cell? ⟨w.heap.size, 2, none⟩ = some (.int .i64 (s : Int)) := hK.cell 2
  have z3 : (w.alloc (.cells #[.int .i64 N, .int .i64 K, .int .i64 (s : Int), .int .i64 (b : Int)] 36)).cell? ⟨w.heap.size, 3, none⟩ = some (.int .i64 (b : Int)) := hK.cell 3
  have HB := Lib.hid hb
  clear hx hr hb hK h
  go_enter Tryd.func36, Tryd.ntmps36
  go_wp2
  go_loop [3, 4] (fun nv av => ∃ n a : Nat, nv = .int .i64 n ∧ av = .int .i64 a ∧ n ≤ a ∧ a < 8 + s + b ∧ Hid (a = n * b)) (fun nv av => 33554500 - (intOf av).toNat)
  case atStart => exact ⟨0, 0, rfl, rfl, Nat.le_refl _, by omega, by unfold Hid; simp⟩
  case round =>
    obtain ⟨n, a, rfl, rfl, hna, ha, he⟩ := hrel
    by_cases hlt : (a : Int) < 8 + (s : Int)
    · go_wp2
      go_round
      case rel => exact ⟨n + 1, a + b, by go_num, by go_num, by omega, by omega, by unfold Hid; rw [he.out, Nat.add_mul, Nat.one_mul]⟩
      case measure => simp [intOf]; omega
    · have HN := Lib.hid (blk_count (s := s) (b := b) (n := n) hb1 (by rw [← he.out]; omega) (by rw [← he.out]; omega))
      go_wp2
      go_ret
      exact ⟨ret_i64 (congrArg (fun x : Nat => (x : Int)) HN.out), HB.out⟩
end Go.Proofs.YtbgdoemealddpaaDoor
