/-
  RECORDS OF THE DIRECTORY: how many bytes a record has: the program's. No conditions (but for the length of a name).
-/
import Derived.Test.YtacllgglpjdobaaDoorCnb
namespace Go.Proofs.YtacllgglpjdobaaDoor
open Go.RowKit
set_option maxRecDepth 100000
set_option linter.unusedVariables false

/-- how many bytes a record has -/
def szC (c : Rc) : Int := 46 + min ((S c.h.nm).size : Int) 65535 + (bh c : Int)
set_option maxHeartbeats 2000000 in
theorem SizeC_c {c : Rc} (hW : RcW c) (hn : c.h.nm.length ≤ 1000000) (w : World) : Calls Tryd.prog 13 #[rcV c] w fun e w' => e = .returned (.int .i64 (szC c)) ∧ Below w.heap.size w w' := by
  have hl := bh_le c
  have HG := Lib.hid (fun w => behind_c hW w)
  obtain ⟨n, hn1⟩ : ∃ n, n = bh c := ⟨_, rfl⟩
  obtain ⟨v, hv⟩ : ∃ v : Nat, min ((S c.h.nm).size : Int) 65535 = (v : Int) := ⟨(min ((S c.h.nm).size : Int) 65535).toNat, by omega⟩
  have hv5 : v ≤ 65535 := by omega
  obtain ⟨r, hr⟩ : ∃ r : Nat, r = 46 + v + n := ⟨_, rfl⟩
  have hz : szC c = (r : Int) := by unfold szC; rw [hv, ← hn1, hr]; omega
  rw [hz]
  rw [← hn1] at HG hl
  have e1 : IntKind.i64.wrap (46 + (v : Int)) = 46 + (v : Int) := (IntWalk.i64_in _ (by omega)).trans (by omega)
  have e2 : IntKind.i64.wrap (46 + (v : Int) + (n : Int)) = (r : Int) := (IntWalk.i64_in _ (by omega)).trans (by omega)
  clear hz hn1 hW hr
  unfold rcV at *
  have hb0 := (Below.refl w.heap.size w).alloc (Nat.le_refl _) (.cells (rcC c) 29)
  have HB1 := Lib.hid (below_drewN hb0 1)
  have HX1 : Hid (Blk (w.alloc (.cells (rcC c) 29)).drew w.heap.size 29 (rcC c)) := Blk.new w 29 (rcC c)
  clear hb0
  obtain ⟨⟨m, ⟨y, mo, d, hh, mi, s⟩, sum, p, z, nm⟩, k, o⟩ := c
  unfold rcC at *
  dsimp only at *
  go_enter Tryd.func13, Tryd.ntmps13
  go_wp2_with fail
  refine wp_region_held_drew (S := fun W' => W'.cell? ⟨w.heap.size, 0, none⟩ = some (Value.int .i64 m) ∧ W'.cell? ⟨w.heap.size, 1, none⟩ = some (Value.int .i64 y) ∧ W'.cell? ⟨w.heap.size, 2, none⟩ = some (Value.int .i64 mo) ∧ W'.cell? ⟨w.heap.size, 3, none⟩ = some (Value.int .i64 d) ∧ W'.cell? ⟨w.heap.size, 4, none⟩ = some (Value.int .i64 hh) ∧ W'.cell? ⟨w.heap.size, 5, none⟩ = some (Value.int .i64 mi) ∧ W'.cell? ⟨w.heap.size, 6, none⟩ = some (Value.int .i64 s) ∧ W'.cell? ⟨w.heap.size, 7, none⟩ = some (Value.int .u32 sum) ∧ W'.cell? ⟨w.heap.size, 8, none⟩ = some (Value.int .u64 p) ∧ W'.cell? ⟨w.heap.size, 9, none⟩ = some (Value.int .u64 z) ∧ W'.cell? ⟨w.heap.size, 10, none⟩ = some (Value.string (S nm)) ∧ W'.cell? ⟨w.heap.size, 11, none⟩ = some (Value.int .u32 k) ∧ W'.cell? ⟨w.heap.size, 12, none⟩ = some (Value.int .u64 o)) (by kernel_rfl) ?_ (fun hHeld => ?_)
  · exact ⟨HX1.out.cell 0, HX1.out.cell 1, HX1.out.cell 2, HX1.out.cell 3, HX1.out.cell 4, HX1.out.cell 5, HX1.out.cell 6, HX1.out.cell 7, HX1.out.cell 8, HX1.out.cell 9, HX1.out.cell 10, HX1.out.cell 11, HX1.out.cell 12⟩
  refine wpAnyH_take (i := 0) (oi := { dst := some 3, op := _, type := _, pos := _, after := _, guard := _ }) (v := ?_) rfl (by kernel_rfl) (by kernel_rfl) (by kernel_rfl) (fun _ _ _ h => h) (Or.inl ⟨by rfl, ?_⟩) (by assumption) ?_
  rotate_left
  · intro w' hSw
    try dsimp only at hSw
    go_simp
    try with_reducible rfl
  try simp only [Act.put, List.setIfInBounds_toArray, List.set_cons_zero, List.set_cons_succ]
  refine wpAnyH_take (i := 1) (oi := { dst := some 4, op := _, type := _, pos := _, after := _, guard := _ }) (v := ?_) rfl (by kernel_rfl) (by kernel_rfl) (by kernel_rfl) (fun _ _ _ h => h) (Or.inl ⟨by rfl, ?_⟩) (by assumption) ?_
  rotate_left
  · intro w' hSw
    try dsimp only at hSw
    go_simp
    try with_reducible rfl
  try simp only [Act.put, List.setIfInBounds_toArray, List.set_cons_zero, List.set_cons_succ]
  refine wpAnyH_take (i := 2) (oi := { dst := some 5, op := _, type := _, pos := _, after := _, guard := _ }) (v := ?_) rfl (by kernel_rfl) (by kernel_rfl) (by kernel_rfl) (fun _ _ _ h => h) (Or.inl ⟨by rfl, ?_⟩) (by assumption) ?_
  rotate_left
  · intro w' hSw
    try dsimp only at hSw
    go_simp
    try with_reducible rfl
  try simp only [Act.put, List.setIfInBounds_toArray, List.set_cons_zero, List.set_cons_succ]
  refine wpAnyH_take (i := 3) (oi := { dst := some 6, op := _, type := _, pos := _, after := _, guard := _ }) (v := ?_) rfl (by kernel_rfl) (by kernel_rfl) (by kernel_rfl) (fun _ _ _ h => h) (Or.inl ⟨by rfl, ?_⟩) (by assumption) ?_
  rotate_left
  · intro w' hSw
    try dsimp only at hSw
    go_simp
    try with_reducible rfl
  try simp only [Act.put, List.setIfInBounds_toArray, List.set_cons_zero, List.set_cons_succ]
  refine wpAnyH_take (i := 4) (oi := { dst := some 7, op := _, type := _, pos := _, after := _, guard := _ }) (v := ?_) rfl (by kernel_rfl) (by kernel_rfl) (by kernel_rfl) (fun _ _ _ h => h) (Or.inl ⟨by rfl, ?_⟩) (by assumption) ?_
  rotate_left
  · intro w' hSw
    try dsimp only at hSw
    go_simp
    try with_reducible rfl
  try simp only [Act.put, List.setIfInBounds_toArray, List.set_cons_zero, List.set_cons_succ]
  refine wpAnyH_take (i := 5) (oi := { dst := some 8, op := _, type := _, pos := _, after := _, guard := _ }) (v := ?_) rfl (by kernel_rfl) (by kernel_rfl) (by kernel_rfl) (fun _ _ _ h => h) (Or.inl ⟨by rfl, ?_⟩) (by assumption) ?_
  rotate_left
  · intro w' hSw
    try dsimp only at hSw
    go_simp
    try with_reducible rfl
  try simp only [Act.put, List.setIfInBounds_toArray, List.set_cons_zero, List.set_cons_succ]
  refine wpAnyH_take (i := 6) (oi := { dst := some 9, op := _, type := _, pos := _, after := _, guard := _ }) (v := ?_) rfl (by kernel_rfl) (by kernel_rfl) (by kernel_rfl) (fun _ _ _ h => h) (Or.inl ⟨by rfl, ?_⟩) (by assumption) ?_
  rotate_left
  · intro w' hSw
    try dsimp only at hSw
    go_simp
    try with_reducible rfl
  try simp only [Act.put, List.setIfInBounds_toArray, List.set_cons_zero, List.set_cons_succ]
  refine wpAnyH_ready (rs := [7]) (by kernel_rfl) (by simp) ?_
  refine AllReadyH.cons (o := { dst := some 10, op := _, type := _, pos := _, after := _, guard := _ }) rfl (fun K hK => ?_) AllReadyH.nil
  go_simp
  go_at_call 27
  refine (HG.out _).mono ?_
  rintro e w3 ⟨rfl, hb⟩
  try go_wp2_with fail
  have HX2 := Lib.hid (HX1.out.below HX1.out.lt hb)
  have HB2 := Lib.hid (HB1.out.trans (hb.mono HB1.out.size))
  clear hb
  refine hK.out _ _ ?_ (fun hHeld => ?_)
  · exact ⟨HX2.out.cell 0, HX2.out.cell 1, HX2.out.cell 2, HX2.out.cell 3, HX2.out.cell 4, HX2.out.cell 5, HX2.out.cell 6, HX2.out.cell 7, HX2.out.cell 8, HX2.out.cell 9, HX2.out.cell 10, HX2.out.cell 11, HX2.out.cell 12⟩
  clear hK K
  try simp only [Act.put, List.setIfInBounds_toArray, List.set_cons_zero, List.set_cons_succ]
  refine wpAnyH_take (i := 8) (oi := { dst := some 11, op := _, type := _, pos := _, after := _, guard := _ }) (v := ?_) rfl (by kernel_rfl) (by kernel_rfl) (by kernel_rfl) (fun _ _ _ h => h) (Or.inl ⟨by rfl, ?_⟩) (by assumption) ?_
  rotate_left
  · intro w' hSw
    try dsimp only at hSw
    go_simp
    try with_reducible rfl
  try simp only [Act.put, List.setIfInBounds_toArray, List.set_cons_zero, List.set_cons_succ]
  refine wpAnyH_take (i := 9) (oi := { dst := some 2, op := _, type := _, pos := _, after := _, guard := _ }) (v := ?_) rfl (by kernel_rfl) (by kernel_rfl) (by kernel_rfl) (fun _ _ _ h => h) (Or.inl ⟨by rfl, ?_⟩) (by assumption) ?_
  rotate_left
  · intro w' hSw
    try dsimp only at hSw
    go_simp
    try with_reducible rfl
  try simp only [Act.put, List.setIfInBounds_toArray, List.set_cons_zero, List.set_cons_succ]
  refine wpAnyH_done (by kernel_rfl) ?_ _
  go_wp2
  go_ret
  exact ⟨rfl, HB2.out⟩
end Go.Proofs.YtacllgglpjdobaaDoor
