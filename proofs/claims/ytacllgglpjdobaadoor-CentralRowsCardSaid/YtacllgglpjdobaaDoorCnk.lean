/-
  RECORDS OF THE DIRECTORY: the document's bytes of a record (WRITTEN by wip/gen19k.py). No conditions (but for the length of a name).
-/
import Derived.Test.YtacllgglpjdobaaDoorCni
import Derived.Deep.RegionLaw
namespace Go.Proofs.YtacllgglpjdobaaDoor
open Go.RowKit
set_option maxRecDepth 100000
set_option linter.unusedVariables false
set_option linter.unusedSimpArgs false


def P17 (v m t d sum p z nl b k o : Nat) : List (Nat × Nat) := [(33639248, 4), (45, 2), (v, 2), (2048, 2), (m, 2), (t, 2), (d, 2), (sum, 4), (p, 4), (z, 4), (nl, 2), (b, 2), (0, 2), (k, 2), (0, 2), (0, 4), (o, 4)]
theorem cdP_17 (c : Rc) (m t d : Nat) : cdP c m t d = P17 (vnC c) m t d c.h.sum (min c.h.pk 4294967295) (min c.h.sz 4294967295) c.h.nm.length (bh c) (min c.d 65535) (min c.o 4294967295) := rfl
theorem least_z (a b r : Nat) (z : Int) (hz : z = (b : Int)) (hr : min a b = r) (w : World) : Calls Tryd.prog 44 #[.int .u64 (a : Nat), .int .u64 z] w fun e w' => e = .returned (.int .u64 (r : Nat)) ∧ w = w' := by
  subst hz hr
  exact least_c a b w

set_option maxHeartbeats 4000000 in
theorem RBytesC_a (c : Rc) (hb : bh c = 0) (m t d : Nat) (hm : m < 65536) (ht : t < 65536) (hd : d < 65536) (hW : RcW c) (hn : c.h.nm.length ≤ 65535) (w : World) :
    Calls Tryd.prog 26 #[rcV c, .int .u64 (m : Nat), .int .u64 (t : Nat), .int .u64 (d : Nat)] w fun e w' => ∃ A N ca, e = .returned (.slice A N ca) ∧ w'.ownsRow w.heap.size 5 1 (.slice A N ca) N (cs (cdB c m t d)) ∧ Below w.heap.size w w' := by
  have HX := Lib.hid (fun w => RExtra_c hW w)
  have hbl := bh_le c
  have hpk := hW.h.pk
  have hsz := hW.h.sz
  have ho := hW.o
  have hkd := hW.d
  have hsum := hW.h.sum
  have hok := cdP_ok c m t d hm ht hd hW (by omega)
  unfold two64 at hpk hsz ho
  have hB : nsB (cdP c m t d) ++ (nmF c.h.nm ++ exB c) = cdB c m t d := rfl
  have hvn : vnC c = 20 := if_pos hb
  rw [cdP_17, hvn] at hB hok
  have HB := Lib.hid hB
  have K1 := Lib.hid hok
  clear hB hok hW hvn
  generalize cdB c m t d = X at *
  generalize exB c = XE at *
  obtain ⟨⟨mm, ⟨y, mo, dd, hh, mi, s⟩, sum, p, z, nm⟩, k, o⟩ := c
  dsimp only at hn hpk hsz ho hkd hsum HB K1
  have hnS := Lib.hid (S_size nm)
  generalize hnl : nm.length = nl at *
  have HNL := Lib.hid hnl
  clear hnl
  unfold rcV rcC at *
  dsimp only at *
  generalize bh ⟨⟨mm, ⟨y, mo, dd, hh, mi, s⟩, sum, p, z, nm⟩, k, o⟩ = b at *
  have L1 := Lib.hid (least_z p 4294967295 _ 4294967295 rfl rfl)
  have L2 := Lib.hid (least_z z 4294967295 _ 4294967295 rfl rfl)
  have L3 := Lib.hid (least_z k 65535 _ 65535 rfl rfl)
  have L4 := Lib.hid (least_z o 4294967295 _ 4294967295 rfl rfl)
  generalize min p 4294967295 = p1 at *
  generalize min z 4294967295 = z1 at *
  generalize min o 4294967295 = o1 at *
  generalize min k 65535 = k1 at *
  have hb0 : decide (0 < b) = false := decide_eq_false (by omega)
  clear hb
  have u4 : IntKind.u64.wrap (sum : Int) = (sum : Int) := by show (sum : Int) % 18446744073709551616 = _; omega
  have u5 : IntKind.u64.wrap ((S nm).size : Int) = (nl : Int) := by rw [hnS.out]; show (nl : Int) % 18446744073709551616 = _; omega
  have u6 : IntKind.u64.wrap (b : Int) = (b : Int) := by show (b : Int) % 18446744073709551616 = _; omega
  have u8 : IntKind.u64.wrap (k : Int) = (k : Int) := by show (k : Int) % 18446744073709551616 = _; omega
  have HK := Lib.hid (Blk.new w 39 #[.int .i64 mm, .int .i64 y, .int .i64 mo, .int .i64 dd, .int .i64 hh, .int .i64 mi, .int .i64 s, .int .u32 (sum : Nat), .int .u64 (p : Nat), .int .u64 (z : Nat), .string (S nm), .int .u32 (k : Nat), .int .u64 (o : Nat)])
  have HB0 := Lib.hid ((Below.refl w.heap.size w).alloc (Nat.le_refl _) (.cells #[.int .i64 mm, .int .i64 y, .int .i64 mo, .int .i64 dd, .int .i64 hh, .int .i64 mi, .int .i64 s, .int .u32 (sum : Nat), .int .u64 (p : Nat), .int .u64 (z : Nat), .string (S nm), .int .u32 (k : Nat), .int .u64 (o : Nat)] 39))
  go_enter Tryd.func26, Tryd.ntmps26
  have q1 := ld_rcR HK.out rfl
  go_wp2_with (with_reducible refine wpList_load_var _ _ (by with_unfolding_all rfl) q1 ?_)
  refine (HX.out _).mono ?_
  rintro e W1 ⟨A1, ca1, rfl, hown1, hb1⟩
  have HK1 := Lib.hid (HK.out.below HK.out.lt hb1)
  have HB1 := Lib.hid (HB0.out.trans (hb1.mono HB0.out.size))
  have hrM := Lib.hid (own_in hown1)
  clear HK HB0 hb1 hown1 q1
  have c7 : W1.drew.cell? ⟨w.heap.size, 7, none⟩ = _ := (HK1.out.cell 7).trans (show _ = some (Value.int .u32 (sum : Nat)) from rfl)
  have c8 : W1.drew.cell? ⟨w.heap.size, 8, none⟩ = _ := (HK1.out.cell 8).trans (show _ = some (Value.int .u64 (p : Nat)) from rfl)
  have c9 : W1.drew.cell? ⟨w.heap.size, 9, none⟩ = _ := (HK1.out.cell 9).trans (show _ = some (Value.int .u64 (z : Nat)) from rfl)
  have c10 : W1.drew.cell? ⟨w.heap.size, 10, none⟩ = _ := (HK1.out.cell 10).trans (show _ = some (Value.string (S nm)) from rfl)
  have c11 : W1.drew.cell? ⟨w.heap.size, 11, none⟩ = _ := (HK1.out.cell 11).trans (show _ = some (Value.int .u32 (k : Nat)) from rfl)
  have c12 : W1.drew.cell? ⟨w.heap.size, 12, none⟩ = _ := (HK1.out.cell 12).trans (show _ = some (Value.int .u64 (o : Nat)) from rfl)
  have hS0 := And.intro c7 (And.intro c8 (And.intro c9 (And.intro c10 (And.intro c11 c12))))
  have HL := HK1.out.lt
  have hS5 : ((W1.drew.alloc (.cells #[.int .u64 33639248, .int .u64 45, .int .u64 20, .int .u64 2048, .int .u64 (m : Nat), .int .u64 (t : Nat), .int .u64 (d : Nat), .int .u64 (sum : Nat), .int .u64 (p1 : Nat), .int .u64 (z1 : Nat), .int .u64 (nl : Nat), .int .u64 (b : Nat), .int .u64 0, .int .u64 (k1 : Nat), .int .u64 0, .int .u64 0, .int .u64 (o1 : Nat)] 25)).cell? ⟨w.heap.size, 7, none⟩ = some (Value.int .u32 (sum : Nat)) ∧ (W1.drew.alloc (.cells #[.int .u64 33639248, .int .u64 45, .int .u64 20, .int .u64 2048, .int .u64 (m : Nat), .int .u64 (t : Nat), .int .u64 (d : Nat), .int .u64 (sum : Nat), .int .u64 (p1 : Nat), .int .u64 (z1 : Nat), .int .u64 (nl : Nat), .int .u64 (b : Nat), .int .u64 0, .int .u64 (k1 : Nat), .int .u64 0, .int .u64 0, .int .u64 (o1 : Nat)] 25)).cell? ⟨w.heap.size, 8, none⟩ = some (Value.int .u64 (p : Nat)) ∧ (W1.drew.alloc (.cells #[.int .u64 33639248, .int .u64 45, .int .u64 20, .int .u64 2048, .int .u64 (m : Nat), .int .u64 (t : Nat), .int .u64 (d : Nat), .int .u64 (sum : Nat), .int .u64 (p1 : Nat), .int .u64 (z1 : Nat), .int .u64 (nl : Nat), .int .u64 (b : Nat), .int .u64 0, .int .u64 (k1 : Nat), .int .u64 0, .int .u64 0, .int .u64 (o1 : Nat)] 25)).cell? ⟨w.heap.size, 9, none⟩ = some (Value.int .u64 (z : Nat)) ∧ (W1.drew.alloc (.cells #[.int .u64 33639248, .int .u64 45, .int .u64 20, .int .u64 2048, .int .u64 (m : Nat), .int .u64 (t : Nat), .int .u64 (d : Nat), .int .u64 (sum : Nat), .int .u64 (p1 : Nat), .int .u64 (z1 : Nat), .int .u64 (nl : Nat), .int .u64 (b : Nat), .int .u64 0, .int .u64 (k1 : Nat), .int .u64 0, .int .u64 0, .int .u64 (o1 : Nat)] 25)).cell? ⟨w.heap.size, 10, none⟩ = some (Value.string (S nm)) ∧ (W1.drew.alloc (.cells #[.int .u64 33639248, .int .u64 45, .int .u64 20, .int .u64 2048, .int .u64 (m : Nat), .int .u64 (t : Nat), .int .u64 (d : Nat), .int .u64 (sum : Nat), .int .u64 (p1 : Nat), .int .u64 (z1 : Nat), .int .u64 (nl : Nat), .int .u64 (b : Nat), .int .u64 0, .int .u64 (k1 : Nat), .int .u64 0, .int .u64 0, .int .u64 (o1 : Nat)] 25)).cell? ⟨w.heap.size, 11, none⟩ = some (Value.int .u32 (k : Nat)) ∧ (W1.drew.alloc (.cells #[.int .u64 33639248, .int .u64 45, .int .u64 20, .int .u64 2048, .int .u64 (m : Nat), .int .u64 (t : Nat), .int .u64 (d : Nat), .int .u64 (sum : Nat), .int .u64 (p1 : Nat), .int .u64 (z1 : Nat), .int .u64 (nl : Nat), .int .u64 (b : Nat), .int .u64 0, .int .u64 (k1 : Nat), .int .u64 0, .int .u64 0, .int .u64 (o1 : Nat)] 25)).cell? ⟨w.heap.size, 12, none⟩ = some (Value.int .u64 (o : Nat))) := by
    have H2 := (show Blk W1.drew w.heap.size 39 #[.int .i64 mm, .int .i64 y, .int .i64 mo, .int .i64 dd, .int .i64 hh, .int .i64 mi, .int .i64 s, .int .u32 (sum : Nat), .int .u64 (p : Nat), .int .u64 (z : Nat), .string (S nm), .int .u32 (k : Nat), .int .u64 (o : Nat)] from HK1.out).below HL ((Below.refl W1.drew.heap.size W1.drew).alloc (Nat.le_refl _) (.cells #[.int .u64 33639248, .int .u64 45, .int .u64 20, .int .u64 2048, .int .u64 (m : Nat), .int .u64 (t : Nat), .int .u64 (d : Nat), .int .u64 (sum : Nat), .int .u64 (p1 : Nat), .int .u64 (z1 : Nat), .int .u64 (nl : Nat), .int .u64 (b : Nat), .int .u64 0, .int .u64 (k1 : Nat), .int .u64 0, .int .u64 0, .int .u64 (o1 : Nat)] 25))
    exact ⟨(H2.cell 7).trans rfl, (H2.cell 8).trans rfl, (H2.cell 9).trans rfl, (H2.cell 10).trans rfl, (H2.cell 11).trans rfl, (H2.cell 12).trans rfl⟩
  clear c7 c8 c9 c10 c11 c12
  go_wp2_with fail
  refine wp_region_held_drew (S := fun W' => W'.cell? ⟨w.heap.size, 7, none⟩ = some (Value.int .u32 (sum : Nat)) ∧ W'.cell? ⟨w.heap.size, 8, none⟩ = some (Value.int .u64 (p : Nat)) ∧ W'.cell? ⟨w.heap.size, 9, none⟩ = some (Value.int .u64 (z : Nat)) ∧ W'.cell? ⟨w.heap.size, 10, none⟩ = some (Value.string (S nm)) ∧ W'.cell? ⟨w.heap.size, 11, none⟩ = some (Value.int .u32 (k : Nat)) ∧ W'.cell? ⟨w.heap.size, 12, none⟩ = some (Value.int .u64 (o : Nat))) (by kernel_rfl) ?_ (fun hHeld => ?_)
  · exact hS0
  refine wpAnyH_take (i := 0) (oi := { dst := some 17, op := _, type := _, pos := _, after := _, guard := _ }) (v := ?_) rfl (by kernel_rfl) (by kernel_rfl) (by kernel_rfl) (fun _ _ _ h => h) (Or.inl ⟨by rfl, ?_⟩) (by assumption) ?_
  rotate_left
  · intro w' hSw
    try dsimp only at hSw
    go_simp
    try with_reducible rfl
  try simp only [Act.put, List.setIfInBounds_toArray, List.set_cons_zero, List.set_cons_succ]
  refine wpAnyH_take (i := 1) (oi := { dst := some 18, op := _, type := _, pos := _, after := _, guard := _ }) (v := ?_) rfl (by kernel_rfl) (by kernel_rfl) (by kernel_rfl) (fun _ _ _ h => h) (Or.inl ⟨by rfl, ?_⟩) (by assumption) ?_
  rotate_left
  · intro w' hSw
    try dsimp only at hSw
    go_simp
    try with_reducible rfl
  try simp only [Act.put, List.setIfInBounds_toArray, List.set_cons_zero, List.set_cons_succ]
  refine wpAnyH_take (i := 2) (oi := { dst := some 19, op := _, type := _, pos := _, after := _, guard := _ }) (v := ?_) rfl (by kernel_rfl) (by kernel_rfl) (by kernel_rfl) (fun _ _ _ h => h) (Or.inl ⟨by rfl, ?_⟩) (by assumption) ?_
  rotate_left
  · intro w' hSw
    try dsimp only at hSw
    go_simp
    try with_reducible rfl
  try simp only [Act.put, List.setIfInBounds_toArray, List.set_cons_zero, List.set_cons_succ]
  refine wpAnyH_take (i := 3) (oi := { dst := some 20, op := _, type := _, pos := _, after := _, guard := _ }) (v := ?_) rfl (by kernel_rfl) (by kernel_rfl) (by kernel_rfl) (fun _ _ _ h => h) (Or.inl ⟨by rfl, ?_⟩) (by assumption) ?_
  rotate_left
  · intro w' hSw
    try dsimp only at hSw
    go_simp
    try with_reducible rfl
  try simp only [Act.put, List.setIfInBounds_toArray, List.set_cons_zero, List.set_cons_succ]
  refine wpAnyH_take (i := 4) (oi := { dst := some 21, op := _, type := _, pos := _, after := _, guard := _ }) (v := ?_) rfl (by kernel_rfl) (by kernel_rfl) (by kernel_rfl) (fun _ _ _ h => h) (Or.inl ⟨by rfl, ?_⟩) (by assumption) ?_
  rotate_left
  · intro w' hSw
    try dsimp only at hSw
    go_simp
    try with_reducible rfl
  try simp only [Act.put, List.setIfInBounds_toArray, List.set_cons_zero, List.set_cons_succ]
  refine wpAnyH_take (i := 5) (oi := { dst := some 22, op := _, type := _, pos := _, after := _, guard := _ }) (v := ?_) rfl (by kernel_rfl) (by kernel_rfl) (by kernel_rfl) (fun _ _ _ h => h) (Or.inl ⟨by rfl, ?_⟩) (by assumption) ?_
  rotate_left
  · intro w' hSw
    try dsimp only at hSw
    go_simp
    try with_reducible rfl
  try simp only [Act.put, List.setIfInBounds_toArray, List.set_cons_zero, List.set_cons_succ]
  refine wpAnyH_take (i := 6) (oi := { dst := some 23, op := _, type := _, pos := _, after := _, guard := _ }) (v := ?_) rfl (by kernel_rfl) (by kernel_rfl) (by kernel_rfl) (fun _ _ _ h => h) (Or.inl ⟨by rfl, ?_⟩) (by assumption) ?_
  rotate_left
  · intro w' hSw
    try dsimp only at hSw
    go_simp
    try with_reducible rfl
  try simp only [Act.put, List.setIfInBounds_toArray, List.set_cons_zero, List.set_cons_succ]
  refine wpAnyH_take (i := 7) (oi := { dst := some 24, op := _, type := _, pos := _, after := _, guard := _ }) (v := ?_) rfl (by kernel_rfl) (by kernel_rfl) (by kernel_rfl) (fun _ _ _ h => h) (Or.inl ⟨by rfl, ?_⟩) (by assumption) ?_
  rotate_left
  · intro w' hSw
    try dsimp only at hSw
    go_simp
    try with_reducible rfl
  try simp only [Act.put, List.setIfInBounds_toArray, List.set_cons_zero, List.set_cons_succ]
  refine wpAnyH_take (i := 8) (oi := { dst := some 25, op := _, type := _, pos := _, after := _, guard := _ }) (v := ?_) rfl (by kernel_rfl) (by kernel_rfl) (by kernel_rfl) (fun _ _ _ h => h) (Or.inl ⟨by rfl, ?_⟩) (by assumption) ?_
  rotate_left
  · intro w' hSw
    try dsimp only at hSw
    go_simp
    try with_reducible rfl
  try simp only [Act.put, List.setIfInBounds_toArray, List.set_cons_zero, List.set_cons_succ]
  refine wpAnyH_take (i := 9) (oi := { dst := some 26, op := _, type := _, pos := _, after := _, guard := _ }) (v := ?_) rfl (by kernel_rfl) (by kernel_rfl) (by kernel_rfl) (fun _ _ _ h => h) (Or.inl ⟨by rfl, ?_⟩) (by assumption) ?_
  rotate_left
  · intro w' hSw
    try dsimp only at hSw
    go_simp
    try with_reducible rfl
  try simp only [Act.put, List.setIfInBounds_toArray, List.set_cons_zero, List.set_cons_succ]
  refine wpAnyH_take (i := 10) (oi := { dst := some 27, op := _, type := _, pos := _, after := _, guard := _ }) (v := ?_) rfl (by kernel_rfl) (by kernel_rfl) (by kernel_rfl) (fun _ _ _ h => h) (Or.inl ⟨by rfl, ?_⟩) (by assumption) ?_
  rotate_left
  · intro w' hSw
    try dsimp only at hSw
    go_simp
    try with_reducible rfl
  try simp only [Act.put, List.setIfInBounds_toArray, List.set_cons_zero, List.set_cons_succ]
  refine wpAnyH_take (i := 12) (oi := { dst := some 29, op := _, type := _, pos := _, after := _, guard := _ }) (v := ?_) rfl (by kernel_rfl) (by kernel_rfl) (by kernel_rfl) (fun _ _ _ h => h) (Or.inl ⟨by rfl, ?_⟩) (by assumption) ?_
  rotate_left
  · intro w' hSw
    try dsimp only at hSw
    go_simp
    try with_reducible rfl
  try simp only [Act.put, List.setIfInBounds_toArray, List.set_cons_zero, List.set_cons_succ]
  refine wpAnyH_take (i := 13) (oi := { dst := some 30, op := _, type := _, pos := _, after := _, guard := _ }) (v := ?_) rfl (by kernel_rfl) (by kernel_rfl) (by kernel_rfl) (fun _ _ _ h => h) (Or.inl ⟨by rfl, ?_⟩) (by assumption) ?_
  rotate_left
  · intro w' hSw
    try dsimp only at hSw
    go_simp
    try with_reducible rfl
  try simp only [Act.put, List.setIfInBounds_toArray, List.set_cons_zero, List.set_cons_succ]
  refine wpAnyH_take (i := 14) (oi := { dst := some 31, op := _, type := _, pos := _, after := _, guard := _ }) (v := ?_) rfl (by kernel_rfl) (by kernel_rfl) (by kernel_rfl) (fun _ _ _ h => h) (Or.inl ⟨by rfl, ?_⟩) (by assumption) ?_
  rotate_left
  · intro w' hSw
    try dsimp only at hSw
    go_simp
    try with_reducible rfl
  try simp only [Act.put, List.setIfInBounds_toArray, List.set_cons_zero, List.set_cons_succ]
  refine wpAnyH_take (i := 16) (oi := { dst := some 33, op := _, type := _, pos := _, after := _, guard := _ }) (v := ?_) rfl (by kernel_rfl) (by kernel_rfl) (by kernel_rfl) (fun _ _ _ h => h) (Or.inl ⟨by rfl, ?_⟩) (by assumption) ?_
  rotate_left
  · intro w' hSw
    try dsimp only at hSw
    go_simp
    try with_reducible rfl
  try simp only [Act.put, List.setIfInBounds_toArray, List.set_cons_zero, List.set_cons_succ]
  refine wpAnyH_take (i := 17) (oi := { dst := some 34, op := _, type := _, pos := _, after := _, guard := _ }) (v := ?_) rfl (by kernel_rfl) (by kernel_rfl) (by kernel_rfl) (fun _ _ _ h => h) (Or.inl ⟨by rfl, ?_⟩) (by assumption) ?_
  rotate_left
  · intro w' hSw
    try dsimp only at hSw
    go_simp
    try with_reducible rfl
  try simp only [Act.put, List.setIfInBounds_toArray, List.set_cons_zero, List.set_cons_succ]
  refine wpAnyH_take (i := 18) (oi := { dst := some 35, op := _, type := _, pos := _, after := _, guard := _ }) (v := ?_) rfl (by kernel_rfl) (by kernel_rfl) (by kernel_rfl) (fun _ _ _ h => h) (Or.inl ⟨by rfl, ?_⟩) (by assumption) ?_
  rotate_left
  · intro w' hSw
    try dsimp only at hSw
    go_simp
    try with_reducible rfl
  try simp only [Act.put, List.setIfInBounds_toArray, List.set_cons_zero, List.set_cons_succ]
  refine wpAnyH_take (i := 19) (oi := { dst := some 36, op := _, type := _, pos := _, after := _, guard := _ }) (v := ?_) rfl (by kernel_rfl) (by kernel_rfl) (by kernel_rfl) (fun _ _ _ h => h) (Or.inl ⟨by rfl, ?_⟩) (by assumption) ?_
  rotate_left
  · intro w' hSw
    try dsimp only at hSw
    go_simp
    try with_reducible rfl
  try simp only [Act.put, List.setIfInBounds_toArray, List.set_cons_zero, List.set_cons_succ]
  refine wpAnyH_take (i := 20) (oi := { dst := some 37, op := _, type := _, pos := _, after := _, guard := _ }) (v := ?_) rfl (by kernel_rfl) (by kernel_rfl) (by kernel_rfl) (fun _ _ _ h => h) (Or.inl ⟨by rfl, ?_⟩) (by assumption) ?_
  rotate_left
  · intro w' hSw
    try dsimp only at hSw
    go_simp
    try with_reducible rfl
  try simp only [Act.put, List.setIfInBounds_toArray, List.set_cons_zero, List.set_cons_succ]
  refine wpAnyH_take (i := 21) (oi := { dst := some 38, op := _, type := _, pos := _, after := _, guard := _ }) (v := ?_) rfl (by kernel_rfl) (by kernel_rfl) (by kernel_rfl) (fun _ _ _ h => h) (Or.inl ⟨by rfl, ?_⟩) (by assumption) ?_
  rotate_left
  · intro w' hSw
    try dsimp only at hSw
    go_simp
    try with_reducible rfl
  try simp only [Act.put, List.setIfInBounds_toArray, List.set_cons_zero, List.set_cons_succ]
  refine wpAnyH_take (i := 22) (oi := { dst := some 39, op := _, type := _, pos := _, after := _, guard := _ }) (v := ?_) rfl (by kernel_rfl) (by kernel_rfl) (by kernel_rfl) (fun _ _ _ h => h) (Or.inl ⟨by rfl, ?_⟩) (by assumption) ?_
  rotate_left
  · intro w' hSw
    try dsimp only at hSw
    go_simp
    try with_reducible rfl
  try simp only [Act.put, List.setIfInBounds_toArray, List.set_cons_zero, List.set_cons_succ]
  refine wpAnyH_take (i := 23) (oi := { dst := some 40, op := _, type := _, pos := _, after := _, guard := _ }) (v := ?_) rfl (by kernel_rfl) (by kernel_rfl) (by kernel_rfl) (fun _ _ _ h => h) (Or.inl ⟨by rfl, ?_⟩) (by assumption) ?_
  rotate_left
  · intro w' hSw
    try dsimp only at hSw
    go_simp
    try with_reducible rfl
  try simp only [Act.put, List.setIfInBounds_toArray, List.set_cons_zero, List.set_cons_succ]
  refine wpAnyH_take (i := 24) (oi := { dst := some 41, op := _, type := _, pos := _, after := _, guard := _ }) (v := ?_) rfl (by kernel_rfl) (by kernel_rfl) (by kernel_rfl) (fun _ _ _ h => h) (Or.inl ⟨by rfl, ?_⟩) (by assumption) ?_
  rotate_left
  · intro w' hSw
    try dsimp only at hSw
    go_simp
    try with_reducible rfl
  try simp only [Act.put, List.setIfInBounds_toArray, List.set_cons_zero, List.set_cons_succ]
  refine wpAnyH_take (i := 25) (oi := { dst := some 42, op := _, type := _, pos := _, after := _, guard := _ }) (v := ?_) rfl (by kernel_rfl) (by kernel_rfl) (by kernel_rfl) (fun _ _ _ h => h) (Or.inl ⟨by rfl, ?_⟩) (by assumption) ?_
  rotate_left
  · intro w' hSw
    try dsimp only at hSw
    go_simp
    try with_reducible rfl
  try simp only [Act.put, List.setIfInBounds_toArray, List.set_cons_zero, List.set_cons_succ]
  refine wpAnyH_take (i := 26) (oi := { dst := some 43, op := _, type := _, pos := _, after := _, guard := _ }) (v := ?_) rfl (by kernel_rfl) (by kernel_rfl) (by kernel_rfl) (fun _ _ _ h => h) (Or.inl ⟨by rfl, ?_⟩) (by assumption) ?_
  rotate_left
  · intro w' hSw
    try dsimp only at hSw
    go_simp
    try with_reducible rfl
  try simp only [Act.put, List.setIfInBounds_toArray, List.set_cons_zero, List.set_cons_succ]
  refine wpAnyH_take (i := 28) (oi := { dst := some 45, op := _, type := _, pos := _, after := _, guard := _ }) (v := ?_) rfl (by kernel_rfl) (by kernel_rfl) (by kernel_rfl) (fun _ _ _ h => h) (Or.inl ⟨by rfl, ?_⟩) (by assumption) ?_
  rotate_left
  · intro w' hSw
    try dsimp only at hSw
    go_simp
    try with_reducible rfl
  try simp only [Act.put, List.setIfInBounds_toArray, List.set_cons_zero, List.set_cons_succ]
  refine wpAnyH_take (i := 29) (oi := { dst := some 46, op := _, type := _, pos := _, after := _, guard := _ }) (v := ?_) rfl (by kernel_rfl) (by kernel_rfl) (by kernel_rfl) (fun _ _ _ h => h) (Or.inl ⟨by rfl, ?_⟩) (by assumption) ?_
  rotate_left
  · intro w' hSw
    try dsimp only at hSw
    go_simp
    try with_reducible rfl
  try simp only [Act.put, List.setIfInBounds_toArray, List.set_cons_zero, List.set_cons_succ]
  refine wpAnyH_ready (rs := [11]) (by kernel_rfl) (by simp) ?_
  refine AllReadyH.cons (o := { dst := some 28, op := _, type := _, pos := _, after := _, guard := _ }) rfl (fun K hK => ?_) AllReadyH.nil
  go_simp
  go_at_call 44
  refine (L1.out _).mono ?_
  rintro e _ ⟨rfl, rfl⟩
  try go_wp2_with fail
  refine hK.out _ _ ?_ (fun hHeld => ?_)
  · exact hS0
  clear hK K
  try simp only [Act.put, List.setIfInBounds_toArray, List.set_cons_zero, List.set_cons_succ]
  refine wpAnyH_ready (rs := [15]) (by kernel_rfl) (by simp) ?_
  refine AllReadyH.cons (o := { dst := some 32, op := _, type := _, pos := _, after := _, guard := _ }) rfl (fun K hK => ?_) AllReadyH.nil
  go_simp
  go_at_call 44
  refine (L2.out _).mono ?_
  rintro e _ ⟨rfl, rfl⟩
  try go_wp2_with fail
  refine hK.out _ _ ?_ (fun hHeld => ?_)
  · exact hS0
  clear hK K
  try simp only [Act.put, List.setIfInBounds_toArray, List.set_cons_zero, List.set_cons_succ]
  refine wpAnyH_ready (rs := [27]) (by kernel_rfl) (by simp) ?_
  refine AllReadyH.cons (o := { dst := some 44, op := _, type := _, pos := _, after := _, guard := _ }) rfl (fun K hK => ?_) AllReadyH.nil
  go_simp
  go_at_call 44
  refine (L3.out _).mono ?_
  rintro e _ ⟨rfl, rfl⟩
  try go_wp2_with fail
  refine hK.out _ _ ?_ (fun hHeld => ?_)
  · exact hS0
  clear hK K
  try simp only [Act.put, List.setIfInBounds_toArray, List.set_cons_zero, List.set_cons_succ]
  refine wpAnyH_ready (rs := [30]) (by kernel_rfl) (by simp) ?_
  refine AllReadyH.cons (o := { dst := some 47, op := _, type := _, pos := _, after := _, guard := _ }) rfl (fun K hK => ?_) AllReadyH.nil
  go_simp
  go_at_call 44
  refine (L4.out _).mono ?_
  rintro e _ ⟨rfl, rfl⟩
  try go_wp2_with fail
  refine hK.out _ _ ?_ (fun hHeld => ?_)
  · exact hS0
  clear hK K
  try simp only [Act.put, List.setIfInBounds_toArray, List.set_cons_zero, List.set_cons_succ]
  refine wpAnyH_ready (rs := [31]) (by kernel_rfl) (by simp) ?_
  refine AllReadyH.cons (o := { dst := some 48, op := _, type := _, pos := _, after := _, guard := _ }) rfl (fun K hK => ?_) AllReadyH.nil
  go_simp
  try go_wp2_with fail
  refine hK.out _ _ ?_ (fun hHeld => ?_)
  · exact hS5
  clear hK K
  try simp only [Act.put, List.setIfInBounds_toArray, List.set_cons_zero, List.set_cons_succ]
  refine wpAnyH_take (i := 32) (oi := { dst := some 11, op := _, type := _, pos := _, after := _, guard := _ }) (v := ?_) rfl (by kernel_rfl) (by kernel_rfl) (by kernel_rfl) (fun _ _ _ h => h) (Or.inl ⟨by rfl, ?_⟩) (by assumption) ?_
  rotate_left
  · intro w' hSw
    try dsimp only at hSw
    go_simp
    try with_reducible rfl
  try simp only [Act.put, List.setIfInBounds_toArray, List.set_cons_zero, List.set_cons_succ]
  refine wpAnyH_done (by kernel_rfl) ?_ _
  have HN2 := Lib.hid (show Blk ((W1.alloc (.cells #[.int .u64 33639248, .int .u64 45, .int .u64 20, .int .u64 2048, .int .u64 (m : Nat), .int .u64 (t : Nat), .int .u64 (d : Nat), .int .u64 (sum : Nat), .int .u64 (p1 : Nat), .int .u64 (z1 : Nat), .int .u64 (nl : Nat), .int .u64 (b : Nat), .int .u64 0, .int .u64 (k1 : Nat), .int .u64 0, .int .u64 0, .int .u64 (o1 : Nat)] 25)).drew) W1.heap.size 25 #[.int .u64 33639248, .int .u64 45, .int .u64 20, .int .u64 2048, .int .u64 (m : Nat), .int .u64 (t : Nat), .int .u64 (d : Nat), .int .u64 (sum : Nat), .int .u64 (p1 : Nat), .int .u64 (z1 : Nat), .int .u64 (nl : Nat), .int .u64 (b : Nat), .int .u64 0, .int .u64 (k1 : Nat), .int .u64 0, .int .u64 0, .int .u64 (o1 : Nat)] from Blk.new W1 25 #[.int .u64 33639248, .int .u64 45, .int .u64 20, .int .u64 2048, .int .u64 (m : Nat), .int .u64 (t : Nat), .int .u64 (d : Nat), .int .u64 (sum : Nat), .int .u64 (p1 : Nat), .int .u64 (z1 : Nat), .int .u64 (nl : Nat), .int .u64 (b : Nat), .int .u64 0, .int .u64 (k1 : Nat), .int .u64 0, .int .u64 0, .int .u64 (o1 : Nat)])
  have HQ2 := Lib.hid (show Blk ((W1.alloc (.cells #[.int .u64 33639248, .int .u64 45, .int .u64 20, .int .u64 2048, .int .u64 (m : Nat), .int .u64 (t : Nat), .int .u64 (d : Nat), .int .u64 (sum : Nat), .int .u64 (p1 : Nat), .int .u64 (z1 : Nat), .int .u64 (nl : Nat), .int .u64 (b : Nat), .int .u64 0, .int .u64 (k1 : Nat), .int .u64 0, .int .u64 0, .int .u64 (o1 : Nat)] 25)).drew) w.heap.size 39 #[.int .i64 mm, .int .i64 y, .int .i64 mo, .int .i64 dd, .int .i64 hh, .int .i64 mi, .int .i64 s, .int .u32 (sum : Nat), .int .u64 (p : Nat), .int .u64 (z : Nat), .string (S nm), .int .u32 (k : Nat), .int .u64 (o : Nat)] from HK1.out.below HL (below_drewL ((Below.refl W1.heap.size W1).alloc (Nat.le_refl _) _)))
  have hba := below_drewL ((Below.refl W1.heap.size W1).alloc (Nat.le_refl _) (.cells #[.int .u64 33639248, .int .u64 45, .int .u64 20, .int .u64 2048, .int .u64 (m : Nat), .int .u64 (t : Nat), .int .u64 (d : Nat), .int .u64 (sum : Nat), .int .u64 (p1 : Nat), .int .u64 (z1 : Nat), .int .u64 (nl : Nat), .int .u64 (b : Nat), .int .u64 0, .int .u64 (k1 : Nat), .int .u64 0, .int .u64 0, .int .u64 (o1 : Nat)] 25))
  have HB2 := Lib.hid (HB1.out.trans (hba.mono HB1.out.size))
  have hrM2 := Lib.hid (hrM.out.below hba)
  clear hba HK1 HB1 hrM hS0 hS5
  generalize ((W1.alloc (.cells #[.int .u64 33639248, .int .u64 45, .int .u64 20, .int .u64 2048, .int .u64 (m : Nat), .int .u64 (t : Nat), .int .u64 (d : Nat), .int .u64 (sum : Nat), .int .u64 (p1 : Nat), .int .u64 (z1 : Nat), .int .u64 (nl : Nat), .int .u64 (b : Nat), .int .u64 0, .int .u64 (k1 : Nat), .int .u64 0, .int .u64 0, .int .u64 (o1 : Nat)] 25)).drew) = W2 at *
  generalize W1.heap.size = g2 at *
  have hl2 := HQ2.out.lt
  have hl3 := HN2.out.lt
  have hcv : ∀ W, (convert 9 31 (.string (S nm))).run Tryd.prog W = .ok (.slice (some ⟨W.heap.size, 0, none⟩) nl (sbC nm W)) (sbW nm W) := by intro W; rw [← HNL.out]; exact sb_run nm W
  have c10 := (HQ2.out.cell 10).trans (show _ = some (Value.string (S nm)) from rfl)
  have hsz := sb_size nm
  have hN17 : ∀ W', Below W2.heap.size W2 W' → IRow W' (some ⟨g2, 0, none⟩) 17 .u64 ((P17 20 m t d sum p1 z1 nl b k1 o1).map fun q => (q.1 : Int)) := fun W' hb => irow_blk (HN2.out.below hl3 hb) _ 17 rfl rfl (by unfold maxLen; omega) (by
    intro x hx
    obtain ⟨q, hq, rfl⟩ := List.mem_map.1 hx
    exact wfU64 _ (K1.out q hq).1)
  have hI17 : ∀ (W' W : World) (g : Nat), g = W.heap.size → Below (W.alloc (.cells #[.int .i64 4, .int .i64 2, .int .i64 2, .int .i64 2, .int .i64 2, .int .i64 2, .int .i64 2, .int .i64 4, .int .i64 4, .int .i64 4, .int .i64 2, .int .i64 2, .int .i64 2, .int .i64 2, .int .i64 2, .int .i64 4, .int .i64 4] 3)).heap.size (W.alloc (.cells #[.int .i64 4, .int .i64 2, .int .i64 2, .int .i64 2, .int .i64 2, .int .i64 2, .int .i64 2, .int .i64 4, .int .i64 4, .int .i64 4, .int .i64 2, .int .i64 2, .int .i64 2, .int .i64 2, .int .i64 2, .int .i64 4, .int .i64 4] 3)) W' → IRow W' (some ⟨g, 0, none⟩) 17 .i64 ((P17 20 m t d sum p1 z1 nl b k1 o1).map fun q => (q.2 : Int)) := by
    rintro W' W g rfl hb
    exact irow_blk ((Blk.new W _ _).below (by simp) hb) _ 17 rfl rfl (by unfold maxLen; omega) (by
      intro x hx
      obtain ⟨q, hq, rfl⟩ := List.mem_map.1 hx
      exact wfI _ (by have := (K1.out q hq).2; omega))
  have HSB : Hid (∀ (W W' : World) (g : Nat), g = W.heap.size → Below (sbW nm W).heap.size (sbW nm W) W' → RowIn W' (some ⟨g, 0, none⟩) nl (sbC nm W) (nmF nm)) := by
    rintro W W' g rfl hb
    rw [← HNL.out]
    exact (sb_row nm W (by have := HNL.out; omega)).below hb
  have HN17 := Lib.hid hN17
  have HI17 := Lib.hid hI17
  clear hN17 hI17
  go_wp2_with fail
  go_region_law (first
    | (go_simp
       go_at_call 46
       refine (RNumbers_c (some ⟨g2, 0, none⟩) 17 17 _ 17 17 _ K1.out (by omega) _ (HN17.out _ (by first | exact Below.refl _ _ | (repeat' (first | exact Below.refl _ _ | refine below_drewL ?_ | refine below_drewN ?_ _ | refine below_sbW _ ?_ ?_ | refine Below.alloc ?_ ?_ _ | (simp [hsz]; done) | (simp [hsz]; omega))))) (by first | ((refine HI17.out _ W2 _ ?_ ?_) <;> (first | exact Below.refl _ _ | (simp [hsz]; done) | ((repeat' (first | exact Below.refl _ _ | refine below_drewL ?_ | refine below_drewN ?_ _ | refine below_sbW _ ?_ ?_ | refine Below.alloc ?_ ?_ _ | (simp [hsz]; done) | (simp [hsz]; omega))); done))) | ((refine HI17.out _ (sbW nm W2.drew) _ ?_ ?_) <;> (first | exact Below.refl _ _ | (simp [hsz]; done) | ((repeat' (first | exact Below.refl _ _ | refine below_drewL ?_ | refine below_drewN ?_ _ | refine below_sbW _ ?_ ?_ | refine Below.alloc ?_ ?_ _ | (simp [hsz]; done) | (simp [hsz]; omega))); done))))).mono ?_
       rintro e w3 ⟨D3, c3, N3, rfl, hown3, hN3, hb3⟩
       have hN3b : N3 ≤ 136 := by have := nsN_le K1.out; rw [← hN3] at this; simpa [P17] using this
       clear hN3
       have HB3 : Below W2.heap.size W2 w3 := Below.then_ (by first | exact Below.refl _ _ | (repeat' (first | exact Below.refl _ _ | refine below_drewL ?_ | refine below_drewN ?_ _ | refine below_sbW _ ?_ ?_ | refine Below.alloc ?_ ?_ _ | (simp [hsz]; done) | (simp [hsz]; omega)))) hb3
       have c3x := (HB3.cell (p := ⟨w.heap.size, 10, none⟩) (by exact hl2)).trans c10)
    | (go_simp
       go_at_call 45
       refine (Join3_c (by first | exact (own_in hown3).below (Below.refl _ _) | exact (own_in hown3).below (sb_below nm w3)) (HSB.out _ _ _ (by simp [hsz]) (by first | exact Below.refl _ _ | exact hb3 | exact Below.then_ ((Below.refl _ _).alloc (Nat.le_refl _) _) hb3)) (hrM2.out.below (by first | exact HB3 | exact below_sbW nm HB3 HB3.size)) (by omega) (by omega) (by omega) _ _ (by simp [hsz])).mono ?_
       rintro e w4 ⟨E4, N4, c4, rfl, hown4, hN4, hb4⟩
       clear hN4))
  all_goals
    have HE : Hid (cs (nsB (P17 20 m t d sum p1 z1 nl b k1 o1) ++ (nmF nm ++ XE)) = cs X) := congrArg cs HB.out
    rw [HE.out] at hown4
    go_wp2
    go_ret
    exact ⟨_, _, _, rfl, own_base2 hown4 (by have h5 := HB3.size; have h6 := HB2.out.size; first | omega | (simp [hsz]; omega)), HB2.out.trans ((Below.then_ HB3 (by first | exact hb4 | exact Below.then_ (sb_below nm w3) hb4)).mono HB2.out.size)⟩

set_option maxHeartbeats 4000000 in
theorem RBytesC_b (c : Rc) (hb : bh c ≠ 0) (m t d : Nat) (hm : m < 65536) (ht : t < 65536) (hd : d < 65536) (hW : RcW c) (hn : c.h.nm.length ≤ 65535) (w : World) :
    Calls Tryd.prog 26 #[rcV c, .int .u64 (m : Nat), .int .u64 (t : Nat), .int .u64 (d : Nat)] w fun e w' => ∃ A N ca, e = .returned (.slice A N ca) ∧ w'.ownsRow w.heap.size 5 1 (.slice A N ca) N (cs (cdB c m t d)) ∧ Below w.heap.size w w' := by
  have HX := Lib.hid (fun w => RExtra_c hW w)
  have hbl := bh_le c
  have hpk := hW.h.pk
  have hsz := hW.h.sz
  have ho := hW.o
  have hkd := hW.d
  have hsum := hW.h.sum
  have hok := cdP_ok c m t d hm ht hd hW (by omega)
  unfold two64 at hpk hsz ho
  have hB : nsB (cdP c m t d) ++ (nmF c.h.nm ++ exB c) = cdB c m t d := rfl
  have hvn : vnC c = 45 := if_neg hb
  rw [cdP_17, hvn] at hB hok
  have HB := Lib.hid hB
  have K1 := Lib.hid hok
  clear hB hok hW hvn
  generalize cdB c m t d = X at *
  generalize exB c = XE at *
  obtain ⟨⟨mm, ⟨y, mo, dd, hh, mi, s⟩, sum, p, z, nm⟩, k, o⟩ := c
  dsimp only at hn hpk hsz ho hkd hsum HB K1
  have hnS := Lib.hid (S_size nm)
  generalize hnl : nm.length = nl at *
  have HNL := Lib.hid hnl
  clear hnl
  unfold rcV rcC at *
  dsimp only at *
  generalize bh ⟨⟨mm, ⟨y, mo, dd, hh, mi, s⟩, sum, p, z, nm⟩, k, o⟩ = b at *
  have L1 := Lib.hid (least_z p 4294967295 _ 4294967295 rfl rfl)
  have L2 := Lib.hid (least_z z 4294967295 _ 4294967295 rfl rfl)
  have L3 := Lib.hid (least_z k 65535 _ 65535 rfl rfl)
  have L4 := Lib.hid (least_z o 4294967295 _ 4294967295 rfl rfl)
  generalize min p 4294967295 = p1 at *
  generalize min z 4294967295 = z1 at *
  generalize min o 4294967295 = o1 at *
  generalize min k 65535 = k1 at *
  have hb0 : 0 < b := by omega
  clear hb
  have u4 : IntKind.u64.wrap (sum : Int) = (sum : Int) := by show (sum : Int) % 18446744073709551616 = _; omega
  have u5 : IntKind.u64.wrap ((S nm).size : Int) = (nl : Int) := by rw [hnS.out]; show (nl : Int) % 18446744073709551616 = _; omega
  have u6 : IntKind.u64.wrap (b : Int) = (b : Int) := by show (b : Int) % 18446744073709551616 = _; omega
  have u8 : IntKind.u64.wrap (k : Int) = (k : Int) := by show (k : Int) % 18446744073709551616 = _; omega
  have HK := Lib.hid (Blk.new w 39 #[.int .i64 mm, .int .i64 y, .int .i64 mo, .int .i64 dd, .int .i64 hh, .int .i64 mi, .int .i64 s, .int .u32 (sum : Nat), .int .u64 (p : Nat), .int .u64 (z : Nat), .string (S nm), .int .u32 (k : Nat), .int .u64 (o : Nat)])
  have HB0 := Lib.hid ((Below.refl w.heap.size w).alloc (Nat.le_refl _) (.cells #[.int .i64 mm, .int .i64 y, .int .i64 mo, .int .i64 dd, .int .i64 hh, .int .i64 mi, .int .i64 s, .int .u32 (sum : Nat), .int .u64 (p : Nat), .int .u64 (z : Nat), .string (S nm), .int .u32 (k : Nat), .int .u64 (o : Nat)] 39))
  go_enter Tryd.func26, Tryd.ntmps26
  have q1 := ld_rcR HK.out rfl
  go_wp2_with (with_reducible refine wpList_load_var _ _ (by with_unfolding_all rfl) q1 ?_)
  refine (HX.out _).mono ?_
  rintro e W1 ⟨A1, ca1, rfl, hown1, hb1⟩
  have HK1 := Lib.hid (HK.out.below HK.out.lt hb1)
  have HB1 := Lib.hid (HB0.out.trans (hb1.mono HB0.out.size))
  have hrM := Lib.hid (own_in hown1)
  clear HK HB0 hb1 hown1 q1
  have c7 : W1.drew.cell? ⟨w.heap.size, 7, none⟩ = _ := (HK1.out.cell 7).trans (show _ = some (Value.int .u32 (sum : Nat)) from rfl)
  have c8 : W1.drew.cell? ⟨w.heap.size, 8, none⟩ = _ := (HK1.out.cell 8).trans (show _ = some (Value.int .u64 (p : Nat)) from rfl)
  have c9 : W1.drew.cell? ⟨w.heap.size, 9, none⟩ = _ := (HK1.out.cell 9).trans (show _ = some (Value.int .u64 (z : Nat)) from rfl)
  have c10 : W1.drew.cell? ⟨w.heap.size, 10, none⟩ = _ := (HK1.out.cell 10).trans (show _ = some (Value.string (S nm)) from rfl)
  have c11 : W1.drew.cell? ⟨w.heap.size, 11, none⟩ = _ := (HK1.out.cell 11).trans (show _ = some (Value.int .u32 (k : Nat)) from rfl)
  have c12 : W1.drew.cell? ⟨w.heap.size, 12, none⟩ = _ := (HK1.out.cell 12).trans (show _ = some (Value.int .u64 (o : Nat)) from rfl)
  have hS0 := And.intro c7 (And.intro c8 (And.intro c9 (And.intro c10 (And.intro c11 c12))))
  have HL := HK1.out.lt
  have hS5 : ((W1.drew.alloc (.cells #[.int .u64 33639248, .int .u64 45, .int .u64 45, .int .u64 2048, .int .u64 (m : Nat), .int .u64 (t : Nat), .int .u64 (d : Nat), .int .u64 (sum : Nat), .int .u64 (p1 : Nat), .int .u64 (z1 : Nat), .int .u64 (nl : Nat), .int .u64 (b : Nat), .int .u64 0, .int .u64 (k1 : Nat), .int .u64 0, .int .u64 0, .int .u64 (o1 : Nat)] 25)).cell? ⟨w.heap.size, 7, none⟩ = some (Value.int .u32 (sum : Nat)) ∧ (W1.drew.alloc (.cells #[.int .u64 33639248, .int .u64 45, .int .u64 45, .int .u64 2048, .int .u64 (m : Nat), .int .u64 (t : Nat), .int .u64 (d : Nat), .int .u64 (sum : Nat), .int .u64 (p1 : Nat), .int .u64 (z1 : Nat), .int .u64 (nl : Nat), .int .u64 (b : Nat), .int .u64 0, .int .u64 (k1 : Nat), .int .u64 0, .int .u64 0, .int .u64 (o1 : Nat)] 25)).cell? ⟨w.heap.size, 8, none⟩ = some (Value.int .u64 (p : Nat)) ∧ (W1.drew.alloc (.cells #[.int .u64 33639248, .int .u64 45, .int .u64 45, .int .u64 2048, .int .u64 (m : Nat), .int .u64 (t : Nat), .int .u64 (d : Nat), .int .u64 (sum : Nat), .int .u64 (p1 : Nat), .int .u64 (z1 : Nat), .int .u64 (nl : Nat), .int .u64 (b : Nat), .int .u64 0, .int .u64 (k1 : Nat), .int .u64 0, .int .u64 0, .int .u64 (o1 : Nat)] 25)).cell? ⟨w.heap.size, 9, none⟩ = some (Value.int .u64 (z : Nat)) ∧ (W1.drew.alloc (.cells #[.int .u64 33639248, .int .u64 45, .int .u64 45, .int .u64 2048, .int .u64 (m : Nat), .int .u64 (t : Nat), .int .u64 (d : Nat), .int .u64 (sum : Nat), .int .u64 (p1 : Nat), .int .u64 (z1 : Nat), .int .u64 (nl : Nat), .int .u64 (b : Nat), .int .u64 0, .int .u64 (k1 : Nat), .int .u64 0, .int .u64 0, .int .u64 (o1 : Nat)] 25)).cell? ⟨w.heap.size, 10, none⟩ = some (Value.string (S nm)) ∧ (W1.drew.alloc (.cells #[.int .u64 33639248, .int .u64 45, .int .u64 45, .int .u64 2048, .int .u64 (m : Nat), .int .u64 (t : Nat), .int .u64 (d : Nat), .int .u64 (sum : Nat), .int .u64 (p1 : Nat), .int .u64 (z1 : Nat), .int .u64 (nl : Nat), .int .u64 (b : Nat), .int .u64 0, .int .u64 (k1 : Nat), .int .u64 0, .int .u64 0, .int .u64 (o1 : Nat)] 25)).cell? ⟨w.heap.size, 11, none⟩ = some (Value.int .u32 (k : Nat)) ∧ (W1.drew.alloc (.cells #[.int .u64 33639248, .int .u64 45, .int .u64 45, .int .u64 2048, .int .u64 (m : Nat), .int .u64 (t : Nat), .int .u64 (d : Nat), .int .u64 (sum : Nat), .int .u64 (p1 : Nat), .int .u64 (z1 : Nat), .int .u64 (nl : Nat), .int .u64 (b : Nat), .int .u64 0, .int .u64 (k1 : Nat), .int .u64 0, .int .u64 0, .int .u64 (o1 : Nat)] 25)).cell? ⟨w.heap.size, 12, none⟩ = some (Value.int .u64 (o : Nat))) := by
    have H2 := (show Blk W1.drew w.heap.size 39 #[.int .i64 mm, .int .i64 y, .int .i64 mo, .int .i64 dd, .int .i64 hh, .int .i64 mi, .int .i64 s, .int .u32 (sum : Nat), .int .u64 (p : Nat), .int .u64 (z : Nat), .string (S nm), .int .u32 (k : Nat), .int .u64 (o : Nat)] from HK1.out).below HL ((Below.refl W1.drew.heap.size W1.drew).alloc (Nat.le_refl _) (.cells #[.int .u64 33639248, .int .u64 45, .int .u64 45, .int .u64 2048, .int .u64 (m : Nat), .int .u64 (t : Nat), .int .u64 (d : Nat), .int .u64 (sum : Nat), .int .u64 (p1 : Nat), .int .u64 (z1 : Nat), .int .u64 (nl : Nat), .int .u64 (b : Nat), .int .u64 0, .int .u64 (k1 : Nat), .int .u64 0, .int .u64 0, .int .u64 (o1 : Nat)] 25))
    exact ⟨(H2.cell 7).trans rfl, (H2.cell 8).trans rfl, (H2.cell 9).trans rfl, (H2.cell 10).trans rfl, (H2.cell 11).trans rfl, (H2.cell 12).trans rfl⟩
  clear c7 c8 c9 c10 c11 c12
  go_wp2_with fail
  refine wp_region_held_drew (S := fun W' => W'.cell? ⟨w.heap.size, 7, none⟩ = some (Value.int .u32 (sum : Nat)) ∧ W'.cell? ⟨w.heap.size, 8, none⟩ = some (Value.int .u64 (p : Nat)) ∧ W'.cell? ⟨w.heap.size, 9, none⟩ = some (Value.int .u64 (z : Nat)) ∧ W'.cell? ⟨w.heap.size, 10, none⟩ = some (Value.string (S nm)) ∧ W'.cell? ⟨w.heap.size, 11, none⟩ = some (Value.int .u32 (k : Nat)) ∧ W'.cell? ⟨w.heap.size, 12, none⟩ = some (Value.int .u64 (o : Nat))) (by kernel_rfl) ?_ (fun hHeld => ?_)
  · exact hS0
  refine wpAnyH_take (i := 0) (oi := { dst := some 17, op := _, type := _, pos := _, after := _, guard := _ }) (v := ?_) rfl (by kernel_rfl) (by kernel_rfl) (by kernel_rfl) (fun _ _ _ h => h) (Or.inl ⟨by rfl, ?_⟩) (by assumption) ?_
  rotate_left
  · intro w' hSw
    try dsimp only at hSw
    go_simp
    try with_reducible rfl
  try simp only [Act.put, List.setIfInBounds_toArray, List.set_cons_zero, List.set_cons_succ]
  refine wpAnyH_take (i := 1) (oi := { dst := some 18, op := _, type := _, pos := _, after := _, guard := _ }) (v := ?_) rfl (by kernel_rfl) (by kernel_rfl) (by kernel_rfl) (fun _ _ _ h => h) (Or.inl ⟨by rfl, ?_⟩) (by assumption) ?_
  rotate_left
  · intro w' hSw
    try dsimp only at hSw
    go_simp
    try with_reducible rfl
  try simp only [Act.put, List.setIfInBounds_toArray, List.set_cons_zero, List.set_cons_succ]
  refine wpAnyH_take (i := 2) (oi := { dst := some 19, op := _, type := _, pos := _, after := _, guard := _ }) (v := ?_) rfl (by kernel_rfl) (by kernel_rfl) (by kernel_rfl) (fun _ _ _ h => h) (Or.inl ⟨by rfl, ?_⟩) (by assumption) ?_
  rotate_left
  · intro w' hSw
    try dsimp only at hSw
    go_simp
    try with_reducible rfl
  try simp only [Act.put, List.setIfInBounds_toArray, List.set_cons_zero, List.set_cons_succ]
  refine wpAnyH_take (i := 3) (oi := { dst := some 20, op := _, type := _, pos := _, after := _, guard := _ }) (v := ?_) rfl (by kernel_rfl) (by kernel_rfl) (by kernel_rfl) (fun _ _ _ h => h) (Or.inl ⟨by rfl, ?_⟩) (by assumption) ?_
  rotate_left
  · intro w' hSw
    try dsimp only at hSw
    go_simp
    try with_reducible rfl
  try simp only [Act.put, List.setIfInBounds_toArray, List.set_cons_zero, List.set_cons_succ]
  refine wpAnyH_take (i := 4) (oi := { dst := some 21, op := _, type := _, pos := _, after := _, guard := _ }) (v := ?_) rfl (by kernel_rfl) (by kernel_rfl) (by kernel_rfl) (fun _ _ _ h => h) (Or.inl ⟨by rfl, ?_⟩) (by assumption) ?_
  rotate_left
  · intro w' hSw
    try dsimp only at hSw
    go_simp
    try with_reducible rfl
  try simp only [Act.put, List.setIfInBounds_toArray, List.set_cons_zero, List.set_cons_succ]
  refine wpAnyH_take (i := 5) (oi := { dst := some 22, op := _, type := _, pos := _, after := _, guard := _ }) (v := ?_) rfl (by kernel_rfl) (by kernel_rfl) (by kernel_rfl) (fun _ _ _ h => h) (Or.inl ⟨by rfl, ?_⟩) (by assumption) ?_
  rotate_left
  · intro w' hSw
    try dsimp only at hSw
    go_simp
    try with_reducible rfl
  try simp only [Act.put, List.setIfInBounds_toArray, List.set_cons_zero, List.set_cons_succ]
  refine wpAnyH_take (i := 6) (oi := { dst := some 23, op := _, type := _, pos := _, after := _, guard := _ }) (v := ?_) rfl (by kernel_rfl) (by kernel_rfl) (by kernel_rfl) (fun _ _ _ h => h) (Or.inl ⟨by rfl, ?_⟩) (by assumption) ?_
  rotate_left
  · intro w' hSw
    try dsimp only at hSw
    go_simp
    try with_reducible rfl
  try simp only [Act.put, List.setIfInBounds_toArray, List.set_cons_zero, List.set_cons_succ]
  refine wpAnyH_take (i := 7) (oi := { dst := some 24, op := _, type := _, pos := _, after := _, guard := _ }) (v := ?_) rfl (by kernel_rfl) (by kernel_rfl) (by kernel_rfl) (fun _ _ _ h => h) (Or.inl ⟨by rfl, ?_⟩) (by assumption) ?_
  rotate_left
  · intro w' hSw
    try dsimp only at hSw
    go_simp
    try with_reducible rfl
  try simp only [Act.put, List.setIfInBounds_toArray, List.set_cons_zero, List.set_cons_succ]
  refine wpAnyH_take (i := 8) (oi := { dst := some 25, op := _, type := _, pos := _, after := _, guard := _ }) (v := ?_) rfl (by kernel_rfl) (by kernel_rfl) (by kernel_rfl) (fun _ _ _ h => h) (Or.inl ⟨by rfl, ?_⟩) (by assumption) ?_
  rotate_left
  · intro w' hSw
    try dsimp only at hSw
    go_simp
    try with_reducible rfl
  try simp only [Act.put, List.setIfInBounds_toArray, List.set_cons_zero, List.set_cons_succ]
  refine wpAnyH_take (i := 9) (oi := { dst := some 26, op := _, type := _, pos := _, after := _, guard := _ }) (v := ?_) rfl (by kernel_rfl) (by kernel_rfl) (by kernel_rfl) (fun _ _ _ h => h) (Or.inl ⟨by rfl, ?_⟩) (by assumption) ?_
  rotate_left
  · intro w' hSw
    try dsimp only at hSw
    go_simp
    try with_reducible rfl
  try simp only [Act.put, List.setIfInBounds_toArray, List.set_cons_zero, List.set_cons_succ]
  refine wpAnyH_take (i := 10) (oi := { dst := some 27, op := _, type := _, pos := _, after := _, guard := _ }) (v := ?_) rfl (by kernel_rfl) (by kernel_rfl) (by kernel_rfl) (fun _ _ _ h => h) (Or.inl ⟨by rfl, ?_⟩) (by assumption) ?_
  rotate_left
  · intro w' hSw
    try dsimp only at hSw
    go_simp
    try with_reducible rfl
  try simp only [Act.put, List.setIfInBounds_toArray, List.set_cons_zero, List.set_cons_succ]
  refine wpAnyH_take (i := 12) (oi := { dst := some 29, op := _, type := _, pos := _, after := _, guard := _ }) (v := ?_) rfl (by kernel_rfl) (by kernel_rfl) (by kernel_rfl) (fun _ _ _ h => h) (Or.inl ⟨by rfl, ?_⟩) (by assumption) ?_
  rotate_left
  · intro w' hSw
    try dsimp only at hSw
    go_simp
    try with_reducible rfl
  try simp only [Act.put, List.setIfInBounds_toArray, List.set_cons_zero, List.set_cons_succ]
  refine wpAnyH_take (i := 13) (oi := { dst := some 30, op := _, type := _, pos := _, after := _, guard := _ }) (v := ?_) rfl (by kernel_rfl) (by kernel_rfl) (by kernel_rfl) (fun _ _ _ h => h) (Or.inl ⟨by rfl, ?_⟩) (by assumption) ?_
  rotate_left
  · intro w' hSw
    try dsimp only at hSw
    go_simp
    try with_reducible rfl
  try simp only [Act.put, List.setIfInBounds_toArray, List.set_cons_zero, List.set_cons_succ]
  refine wpAnyH_take (i := 14) (oi := { dst := some 31, op := _, type := _, pos := _, after := _, guard := _ }) (v := ?_) rfl (by kernel_rfl) (by kernel_rfl) (by kernel_rfl) (fun _ _ _ h => h) (Or.inl ⟨by rfl, ?_⟩) (by assumption) ?_
  rotate_left
  · intro w' hSw
    try dsimp only at hSw
    go_simp
    try with_reducible rfl
  try simp only [Act.put, List.setIfInBounds_toArray, List.set_cons_zero, List.set_cons_succ]
  refine wpAnyH_take (i := 16) (oi := { dst := some 33, op := _, type := _, pos := _, after := _, guard := _ }) (v := ?_) rfl (by kernel_rfl) (by kernel_rfl) (by kernel_rfl) (fun _ _ _ h => h) (Or.inl ⟨by rfl, ?_⟩) (by assumption) ?_
  rotate_left
  · intro w' hSw
    try dsimp only at hSw
    go_simp
    try with_reducible rfl
  try simp only [Act.put, List.setIfInBounds_toArray, List.set_cons_zero, List.set_cons_succ]
  refine wpAnyH_take (i := 17) (oi := { dst := some 34, op := _, type := _, pos := _, after := _, guard := _ }) (v := ?_) rfl (by kernel_rfl) (by kernel_rfl) (by kernel_rfl) (fun _ _ _ h => h) (Or.inl ⟨by rfl, ?_⟩) (by assumption) ?_
  rotate_left
  · intro w' hSw
    try dsimp only at hSw
    go_simp
    try with_reducible rfl
  try simp only [Act.put, List.setIfInBounds_toArray, List.set_cons_zero, List.set_cons_succ]
  refine wpAnyH_take (i := 18) (oi := { dst := some 35, op := _, type := _, pos := _, after := _, guard := _ }) (v := ?_) rfl (by kernel_rfl) (by kernel_rfl) (by kernel_rfl) (fun _ _ _ h => h) (Or.inl ⟨by rfl, ?_⟩) (by assumption) ?_
  rotate_left
  · intro w' hSw
    try dsimp only at hSw
    go_simp
    try with_reducible rfl
  try simp only [Act.put, List.setIfInBounds_toArray, List.set_cons_zero, List.set_cons_succ]
  refine wpAnyH_take (i := 19) (oi := { dst := some 36, op := _, type := _, pos := _, after := _, guard := _ }) (v := ?_) rfl (by kernel_rfl) (by kernel_rfl) (by kernel_rfl) (fun _ _ _ h => h) (Or.inl ⟨by rfl, ?_⟩) (by assumption) ?_
  rotate_left
  · intro w' hSw
    try dsimp only at hSw
    go_simp
    try with_reducible rfl
  try simp only [Act.put, List.setIfInBounds_toArray, List.set_cons_zero, List.set_cons_succ]
  refine wpAnyH_take (i := 20) (oi := { dst := some 37, op := _, type := _, pos := _, after := _, guard := _ }) (v := ?_) rfl (by kernel_rfl) (by kernel_rfl) (by kernel_rfl) (fun _ _ _ h => h) (Or.inl ⟨by rfl, ?_⟩) (by assumption) ?_
  rotate_left
  · intro w' hSw
    try dsimp only at hSw
    go_simp
    try with_reducible rfl
  try simp only [Act.put, List.setIfInBounds_toArray, List.set_cons_zero, List.set_cons_succ]
  refine wpAnyH_take (i := 21) (oi := { dst := some 38, op := _, type := _, pos := _, after := _, guard := _ }) (v := ?_) rfl (by kernel_rfl) (by kernel_rfl) (by kernel_rfl) (fun _ _ _ h => h) (Or.inl ⟨by rfl, ?_⟩) (by assumption) ?_
  rotate_left
  · intro w' hSw
    try dsimp only at hSw
    go_simp
    try with_reducible rfl
  try simp only [Act.put, List.setIfInBounds_toArray, List.set_cons_zero, List.set_cons_succ]
  refine wpAnyH_take (i := 22) (oi := { dst := some 39, op := _, type := _, pos := _, after := _, guard := _ }) (v := ?_) rfl (by kernel_rfl) (by kernel_rfl) (by kernel_rfl) (fun _ _ _ h => h) (Or.inl ⟨by rfl, ?_⟩) (by assumption) ?_
  rotate_left
  · intro w' hSw
    try dsimp only at hSw
    go_simp
    try with_reducible rfl
  try simp only [Act.put, List.setIfInBounds_toArray, List.set_cons_zero, List.set_cons_succ]
  refine wpAnyH_take (i := 23) (oi := { dst := some 40, op := _, type := _, pos := _, after := _, guard := _ }) (v := ?_) rfl (by kernel_rfl) (by kernel_rfl) (by kernel_rfl) (fun _ _ _ h => h) (Or.inl ⟨by rfl, ?_⟩) (by assumption) ?_
  rotate_left
  · intro w' hSw
    try dsimp only at hSw
    go_simp
    try with_reducible rfl
  try simp only [Act.put, List.setIfInBounds_toArray, List.set_cons_zero, List.set_cons_succ]
  refine wpAnyH_take (i := 24) (oi := { dst := some 41, op := _, type := _, pos := _, after := _, guard := _ }) (v := ?_) rfl (by kernel_rfl) (by kernel_rfl) (by kernel_rfl) (fun _ _ _ h => h) (Or.inl ⟨by rfl, ?_⟩) (by assumption) ?_
  rotate_left
  · intro w' hSw
    try dsimp only at hSw
    go_simp
    try with_reducible rfl
  try simp only [Act.put, List.setIfInBounds_toArray, List.set_cons_zero, List.set_cons_succ]
  refine wpAnyH_take (i := 25) (oi := { dst := some 42, op := _, type := _, pos := _, after := _, guard := _ }) (v := ?_) rfl (by kernel_rfl) (by kernel_rfl) (by kernel_rfl) (fun _ _ _ h => h) (Or.inl ⟨by rfl, ?_⟩) (by assumption) ?_
  rotate_left
  · intro w' hSw
    try dsimp only at hSw
    go_simp
    try with_reducible rfl
  try simp only [Act.put, List.setIfInBounds_toArray, List.set_cons_zero, List.set_cons_succ]
  refine wpAnyH_take (i := 26) (oi := { dst := some 43, op := _, type := _, pos := _, after := _, guard := _ }) (v := ?_) rfl (by kernel_rfl) (by kernel_rfl) (by kernel_rfl) (fun _ _ _ h => h) (Or.inl ⟨by rfl, ?_⟩) (by assumption) ?_
  rotate_left
  · intro w' hSw
    try dsimp only at hSw
    go_simp
    try with_reducible rfl
  try simp only [Act.put, List.setIfInBounds_toArray, List.set_cons_zero, List.set_cons_succ]
  refine wpAnyH_take (i := 28) (oi := { dst := some 45, op := _, type := _, pos := _, after := _, guard := _ }) (v := ?_) rfl (by kernel_rfl) (by kernel_rfl) (by kernel_rfl) (fun _ _ _ h => h) (Or.inl ⟨by rfl, ?_⟩) (by assumption) ?_
  rotate_left
  · intro w' hSw
    try dsimp only at hSw
    go_simp
    try with_reducible rfl
  try simp only [Act.put, List.setIfInBounds_toArray, List.set_cons_zero, List.set_cons_succ]
  refine wpAnyH_take (i := 29) (oi := { dst := some 46, op := _, type := _, pos := _, after := _, guard := _ }) (v := ?_) rfl (by kernel_rfl) (by kernel_rfl) (by kernel_rfl) (fun _ _ _ h => h) (Or.inl ⟨by rfl, ?_⟩) (by assumption) ?_
  rotate_left
  · intro w' hSw
    try dsimp only at hSw
    go_simp
    try with_reducible rfl
  try simp only [Act.put, List.setIfInBounds_toArray, List.set_cons_zero, List.set_cons_succ]
  refine wpAnyH_ready (rs := [11]) (by kernel_rfl) (by simp) ?_
  refine AllReadyH.cons (o := { dst := some 28, op := _, type := _, pos := _, after := _, guard := _ }) rfl (fun K hK => ?_) AllReadyH.nil
  go_simp
  go_at_call 44
  refine (L1.out _).mono ?_
  rintro e _ ⟨rfl, rfl⟩
  try go_wp2_with fail
  refine hK.out _ _ ?_ (fun hHeld => ?_)
  · exact hS0
  clear hK K
  try simp only [Act.put, List.setIfInBounds_toArray, List.set_cons_zero, List.set_cons_succ]
  refine wpAnyH_ready (rs := [15]) (by kernel_rfl) (by simp) ?_
  refine AllReadyH.cons (o := { dst := some 32, op := _, type := _, pos := _, after := _, guard := _ }) rfl (fun K hK => ?_) AllReadyH.nil
  go_simp
  go_at_call 44
  refine (L2.out _).mono ?_
  rintro e _ ⟨rfl, rfl⟩
  try go_wp2_with fail
  refine hK.out _ _ ?_ (fun hHeld => ?_)
  · exact hS0
  clear hK K
  try simp only [Act.put, List.setIfInBounds_toArray, List.set_cons_zero, List.set_cons_succ]
  refine wpAnyH_ready (rs := [27]) (by kernel_rfl) (by simp) ?_
  refine AllReadyH.cons (o := { dst := some 44, op := _, type := _, pos := _, after := _, guard := _ }) rfl (fun K hK => ?_) AllReadyH.nil
  go_simp
  go_at_call 44
  refine (L3.out _).mono ?_
  rintro e _ ⟨rfl, rfl⟩
  try go_wp2_with fail
  refine hK.out _ _ ?_ (fun hHeld => ?_)
  · exact hS0
  clear hK K
  try simp only [Act.put, List.setIfInBounds_toArray, List.set_cons_zero, List.set_cons_succ]
  refine wpAnyH_ready (rs := [30]) (by kernel_rfl) (by simp) ?_
  refine AllReadyH.cons (o := { dst := some 47, op := _, type := _, pos := _, after := _, guard := _ }) rfl (fun K hK => ?_) AllReadyH.nil
  go_simp
  go_at_call 44
  refine (L4.out _).mono ?_
  rintro e _ ⟨rfl, rfl⟩
  try go_wp2_with fail
  refine hK.out _ _ ?_ (fun hHeld => ?_)
  · exact hS0
  clear hK K
  try simp only [Act.put, List.setIfInBounds_toArray, List.set_cons_zero, List.set_cons_succ]
  refine wpAnyH_ready (rs := [31]) (by kernel_rfl) (by simp) ?_
  refine AllReadyH.cons (o := { dst := some 48, op := _, type := _, pos := _, after := _, guard := _ }) rfl (fun K hK => ?_) AllReadyH.nil
  go_simp
  try go_wp2_with fail
  refine hK.out _ _ ?_ (fun hHeld => ?_)
  · exact hS5
  clear hK K
  try simp only [Act.put, List.setIfInBounds_toArray, List.set_cons_zero, List.set_cons_succ]
  refine wpAnyH_take (i := 32) (oi := { dst := some 11, op := _, type := _, pos := _, after := _, guard := _ }) (v := ?_) rfl (by kernel_rfl) (by kernel_rfl) (by kernel_rfl) (fun _ _ _ h => h) (Or.inl ⟨by rfl, ?_⟩) (by assumption) ?_
  rotate_left
  · intro w' hSw
    try dsimp only at hSw
    go_simp
    try with_reducible rfl
  try simp only [Act.put, List.setIfInBounds_toArray, List.set_cons_zero, List.set_cons_succ]
  refine wpAnyH_done (by kernel_rfl) ?_ _
  have HN2 := Lib.hid (show Blk ((W1.alloc (.cells #[.int .u64 33639248, .int .u64 45, .int .u64 45, .int .u64 2048, .int .u64 (m : Nat), .int .u64 (t : Nat), .int .u64 (d : Nat), .int .u64 (sum : Nat), .int .u64 (p1 : Nat), .int .u64 (z1 : Nat), .int .u64 (nl : Nat), .int .u64 (b : Nat), .int .u64 0, .int .u64 (k1 : Nat), .int .u64 0, .int .u64 0, .int .u64 (o1 : Nat)] 25)).drew) W1.heap.size 25 #[.int .u64 33639248, .int .u64 45, .int .u64 45, .int .u64 2048, .int .u64 (m : Nat), .int .u64 (t : Nat), .int .u64 (d : Nat), .int .u64 (sum : Nat), .int .u64 (p1 : Nat), .int .u64 (z1 : Nat), .int .u64 (nl : Nat), .int .u64 (b : Nat), .int .u64 0, .int .u64 (k1 : Nat), .int .u64 0, .int .u64 0, .int .u64 (o1 : Nat)] from Blk.new W1 25 #[.int .u64 33639248, .int .u64 45, .int .u64 45, .int .u64 2048, .int .u64 (m : Nat), .int .u64 (t : Nat), .int .u64 (d : Nat), .int .u64 (sum : Nat), .int .u64 (p1 : Nat), .int .u64 (z1 : Nat), .int .u64 (nl : Nat), .int .u64 (b : Nat), .int .u64 0, .int .u64 (k1 : Nat), .int .u64 0, .int .u64 0, .int .u64 (o1 : Nat)])
  have HQ2 := Lib.hid (show Blk ((W1.alloc (.cells #[.int .u64 33639248, .int .u64 45, .int .u64 45, .int .u64 2048, .int .u64 (m : Nat), .int .u64 (t : Nat), .int .u64 (d : Nat), .int .u64 (sum : Nat), .int .u64 (p1 : Nat), .int .u64 (z1 : Nat), .int .u64 (nl : Nat), .int .u64 (b : Nat), .int .u64 0, .int .u64 (k1 : Nat), .int .u64 0, .int .u64 0, .int .u64 (o1 : Nat)] 25)).drew) w.heap.size 39 #[.int .i64 mm, .int .i64 y, .int .i64 mo, .int .i64 dd, .int .i64 hh, .int .i64 mi, .int .i64 s, .int .u32 (sum : Nat), .int .u64 (p : Nat), .int .u64 (z : Nat), .string (S nm), .int .u32 (k : Nat), .int .u64 (o : Nat)] from HK1.out.below HL (below_drewL ((Below.refl W1.heap.size W1).alloc (Nat.le_refl _) _)))
  have hba := below_drewL ((Below.refl W1.heap.size W1).alloc (Nat.le_refl _) (.cells #[.int .u64 33639248, .int .u64 45, .int .u64 45, .int .u64 2048, .int .u64 (m : Nat), .int .u64 (t : Nat), .int .u64 (d : Nat), .int .u64 (sum : Nat), .int .u64 (p1 : Nat), .int .u64 (z1 : Nat), .int .u64 (nl : Nat), .int .u64 (b : Nat), .int .u64 0, .int .u64 (k1 : Nat), .int .u64 0, .int .u64 0, .int .u64 (o1 : Nat)] 25))
  have HB2 := Lib.hid (HB1.out.trans (hba.mono HB1.out.size))
  have hrM2 := Lib.hid (hrM.out.below hba)
  clear hba HK1 HB1 hrM hS0 hS5
  generalize ((W1.alloc (.cells #[.int .u64 33639248, .int .u64 45, .int .u64 45, .int .u64 2048, .int .u64 (m : Nat), .int .u64 (t : Nat), .int .u64 (d : Nat), .int .u64 (sum : Nat), .int .u64 (p1 : Nat), .int .u64 (z1 : Nat), .int .u64 (nl : Nat), .int .u64 (b : Nat), .int .u64 0, .int .u64 (k1 : Nat), .int .u64 0, .int .u64 0, .int .u64 (o1 : Nat)] 25)).drew) = W2 at *
  generalize W1.heap.size = g2 at *
  have hl2 := HQ2.out.lt
  have hl3 := HN2.out.lt
  have hcv : ∀ W, (convert 9 31 (.string (S nm))).run Tryd.prog W = .ok (.slice (some ⟨W.heap.size, 0, none⟩) nl (sbC nm W)) (sbW nm W) := by intro W; rw [← HNL.out]; exact sb_run nm W
  have c10 := (HQ2.out.cell 10).trans (show _ = some (Value.string (S nm)) from rfl)
  have hsz := sb_size nm
  have hN17 : ∀ W', Below W2.heap.size W2 W' → IRow W' (some ⟨g2, 0, none⟩) 17 .u64 ((P17 45 m t d sum p1 z1 nl b k1 o1).map fun q => (q.1 : Int)) := fun W' hb => irow_blk (HN2.out.below hl3 hb) _ 17 rfl rfl (by unfold maxLen; omega) (by
    intro x hx
    obtain ⟨q, hq, rfl⟩ := List.mem_map.1 hx
    exact wfU64 _ (K1.out q hq).1)
  have hI17 : ∀ (W' W : World) (g : Nat), g = W.heap.size → Below (W.alloc (.cells #[.int .i64 4, .int .i64 2, .int .i64 2, .int .i64 2, .int .i64 2, .int .i64 2, .int .i64 2, .int .i64 4, .int .i64 4, .int .i64 4, .int .i64 2, .int .i64 2, .int .i64 2, .int .i64 2, .int .i64 2, .int .i64 4, .int .i64 4] 3)).heap.size (W.alloc (.cells #[.int .i64 4, .int .i64 2, .int .i64 2, .int .i64 2, .int .i64 2, .int .i64 2, .int .i64 2, .int .i64 4, .int .i64 4, .int .i64 4, .int .i64 2, .int .i64 2, .int .i64 2, .int .i64 2, .int .i64 2, .int .i64 4, .int .i64 4] 3)) W' → IRow W' (some ⟨g, 0, none⟩) 17 .i64 ((P17 45 m t d sum p1 z1 nl b k1 o1).map fun q => (q.2 : Int)) := by
    rintro W' W g rfl hb
    exact irow_blk ((Blk.new W _ _).below (by simp) hb) _ 17 rfl rfl (by unfold maxLen; omega) (by
      intro x hx
      obtain ⟨q, hq, rfl⟩ := List.mem_map.1 hx
      exact wfI _ (by have := (K1.out q hq).2; omega))
  have HSB : Hid (∀ (W W' : World) (g : Nat), g = W.heap.size → Below (sbW nm W).heap.size (sbW nm W) W' → RowIn W' (some ⟨g, 0, none⟩) nl (sbC nm W) (nmF nm)) := by
    rintro W W' g rfl hb
    rw [← HNL.out]
    exact (sb_row nm W (by have := HNL.out; omega)).below hb
  have HN17 := Lib.hid hN17
  have HI17 := Lib.hid hI17
  clear hN17 hI17
  go_wp2_with fail
  go_region_law (first
    | (go_simp
       go_at_call 46
       refine (RNumbers_c (some ⟨g2, 0, none⟩) 17 17 _ 17 17 _ K1.out (by omega) _ (HN17.out _ (by first | exact Below.refl _ _ | (repeat' (first | exact Below.refl _ _ | refine below_drewL ?_ | refine below_drewN ?_ _ | refine below_sbW _ ?_ ?_ | refine Below.alloc ?_ ?_ _ | (simp [hsz]; done) | (simp [hsz]; omega))))) (by first | ((refine HI17.out _ W2 _ ?_ ?_) <;> (first | exact Below.refl _ _ | (simp [hsz]; done) | ((repeat' (first | exact Below.refl _ _ | refine below_drewL ?_ | refine below_drewN ?_ _ | refine below_sbW _ ?_ ?_ | refine Below.alloc ?_ ?_ _ | (simp [hsz]; done) | (simp [hsz]; omega))); done))) | ((refine HI17.out _ (sbW nm W2.drew) _ ?_ ?_) <;> (first | exact Below.refl _ _ | (simp [hsz]; done) | ((repeat' (first | exact Below.refl _ _ | refine below_drewL ?_ | refine below_drewN ?_ _ | refine below_sbW _ ?_ ?_ | refine Below.alloc ?_ ?_ _ | (simp [hsz]; done) | (simp [hsz]; omega))); done))))).mono ?_
       rintro e w3 ⟨D3, c3, N3, rfl, hown3, hN3, hb3⟩
       have hN3b : N3 ≤ 136 := by have := nsN_le K1.out; rw [← hN3] at this; simpa [P17] using this
       clear hN3
       have HB3 : Below W2.heap.size W2 w3 := Below.then_ (by first | exact Below.refl _ _ | (repeat' (first | exact Below.refl _ _ | refine below_drewL ?_ | refine below_drewN ?_ _ | refine below_sbW _ ?_ ?_ | refine Below.alloc ?_ ?_ _ | (simp [hsz]; done) | (simp [hsz]; omega)))) hb3
       have c3x := (HB3.cell (p := ⟨w.heap.size, 10, none⟩) (by exact hl2)).trans c10)
    | (go_simp
       go_at_call 45
       refine (Join3_c (by first | exact (own_in hown3).below (Below.refl _ _) | exact (own_in hown3).below (sb_below nm w3)) (HSB.out _ _ _ (by simp [hsz]) (by first | exact Below.refl _ _ | exact hb3 | exact Below.then_ ((Below.refl _ _).alloc (Nat.le_refl _) _) hb3)) (hrM2.out.below (by first | exact HB3 | exact below_sbW nm HB3 HB3.size)) (by omega) (by omega) (by omega) _ _ (by simp [hsz])).mono ?_
       rintro e w4 ⟨E4, N4, c4, rfl, hown4, hN4, hb4⟩
       clear hN4))
  all_goals
    have HE : Hid (cs (nsB (P17 45 m t d sum p1 z1 nl b k1 o1) ++ (nmF nm ++ XE)) = cs X) := congrArg cs HB.out
    rw [HE.out] at hown4
    go_wp2
    go_ret
    exact ⟨_, _, _, rfl, own_base2 hown4 (by have h5 := HB3.size; have h6 := HB2.out.size; first | omega | (simp [hsz]; omega)), HB2.out.trans ((Below.then_ HB3 (by first | exact hb4 | exact Below.then_ (sb_below nm w3) hb4)).mono HB2.out.size)⟩
end Go.Proofs.YtacllgglpjdobaaDoor
