/-
  THE CONTRACTS OF gf.fourBits AND gf.Scale. Rows are as great as memory lets them be.
-/
import Derived.Test.YtbmkcnlcffnjgaaGf3
import Derived.Deep.WholeRow
import Derived.Laws.ResultCell
import Derived.Deep.RegionWith
import Derived.Laws.CopyOwn
namespace Go.Proofs.Ytbmkcnlcffnjgaa
open Go.RowKit
set_option maxRecDepth 100000
set_option linter.unusedVariables false

section
variable {w w' : World} {g : Nat} {t : TypeId} {C : Array Value}
end

/-- a byte times each that has no more than its lowest four bits -/
def fourL (x : F) : List F := (List.range 16).map fun i => ofN i * x
theorem fourL_length (x : F) : (fourL x).length = 16 := by simp [fourL]
theorem gt_fourL (x : F) {i : Nat} (h : i < 16) : gt (fourL x) i = ofN i * x := by
  rw [gt_lt (by rw [fourL_length]; exact h)]
  simp [fourL]
theorem ofN_high : ∀ b, b < 4 → ∀ k, k < 2 ^ b → ofN (2 ^ b + k) = ofN k + pw 2 b := by decide +kernel
theorem ofN_nib : ∀ v, v < 256 → ofN v = ofN (v % 16) + ofN (v / 16) * pw 2 4 := by decide +kernel
theorem nib (v x : F) : v * x = gt (fourL x) (v.n % 16) + gt (fourL (x * pw 2 4)) (v.n / 16) := by
  have hv := v.lt
  rw [gt_fourL _ (by omega), gt_fourL _ (by omega), mul_comm x, ← mul_assoc, ← add_mul, ← ofN_nib _ hv, n_ofN]
/-- what is so of them with so many told -/
def Four (l : List F) (m : Nat) (x : F) : Prop := l.length = 16 ∧ ∀ i, i < m → gt l i = ofN i * x
theorem Four.fin {l : List F} {x : F} (h : Four l 16 x) : l = fourL x := by
  refine List.ext_getElem (by rw [h.1, fourL_length]) fun i h1 h2 => ?_
  have h3 := h.2 i (by rw [← h.1]; exact h1)
  rw [← gt_fourL x (by rw [← h.1]; exact h1), gt_lt h1, gt_lt h2] at h3
  exact h3
theorem Four.step {l : List F} {b k : Nat} {x y : F} (hb : b < 4) (hk : k < 2 ^ b) (hm : 2 ^ b + k < 16) (hy : y = x * pw 2 b) (h : Four l (2 ^ b + k) x) : Four (l.set (2 ^ b + k) (gt l k + y)) (2 ^ b + k + 1) x := by
  refine ⟨by simp [h.1], fun i hi => ?_⟩
  rw [gt_set' _ _ _ _ (by rw [h.1]; exact hm)]
  by_cases e : i = 2 ^ b + k
  · subst e
    rw [if_pos rfl, h.2 k (by omega), hy, ofN_high b hb k hk, add_mul, mul_comm x]
  · rw [if_neg e]
    exact h.2 i (by omega)
def zero16 : Array Value := Array.replicate 16 (.int .u8 0)
theorem info_16 : (Try.prog.info? 83).map (fun i => (i.zero, i.size)) = some (some (.agg zero16), 16) := by kernel_rfl
theorem zero_16 (w : World) : Sem.run Try.prog (zeroValue 83) w = .ok (.agg zero16) w := (zero_of_info info_16).1 w
theorem size_16 : (Try.prog.info? 83).map (·.size) = some 16 := (zero_of_info info_16).2
theorem zero16_cs : zero16 = (cs (List.replicate 16 0)).toArray := rfl
theorem load_16 (w : World) (g : Nat) (l : List F) (hl : l.length = 16) (h : Blk w g 83 (cs l).toArray) : Sem.run Try.prog (loadVar 83 ⟨g, 0, none⟩) w = .ok (.agg (cs l).toArray) w :=
  run_loadVar_row w g _ _ _ (0, 0) _ h Try.underlying83 rfl (by rw [size_16, List.size_toArray, cs_length, hl])
theorem store_16 (w : World) (g : Nat) (C : Array Value) (l : List F) (hC : C.size = 16) (hl : l.length = 16) (h : Blk w g 83 C) : Sem.run Try.prog (storeVar 83 ⟨g, 0, none⟩ (.agg (cs l).toArray)) w = .ok () (w.setRow g (cs l).toArray) :=
  run_storeVar_row w g _ _ _ _ h (by rw [size_16, List.size_toArray, cs_length, hl]) (by rw [hC, List.size_toArray, cs_length, hl]) (by
    rw [Array.all_eq_true_iff_forall_mem]
    intro u hu
    exact cs_one l u (by simpa using hu))
theorem storeCells_16 (w : World) (g : Nat) (C : Array Value) (l : List F) (hC : C.size = 16) (hl : l.length = 16) (h : Blk w g 83 C) : Sem.run Try.prog (storeCells ⟨g, 0, none⟩ (cs l) 0) w = .ok () (w.setRow g (cs l).toArray) := by
  have h1 := store_16 w g C l hC hl h
  have h2 := size_16
  cases hq : Try.prog.info? 83 with
  | none => simp [hq] at h2
  | some i =>
    have hs : i.size = 16 := by simpa [hq] using h2
    simpa [storeVar, sizeOf, typeInfo, hq, Value.cells, hs, cs_length, hl] using h1
set_option maxHeartbeats 2000000 in
theorem fourBits_c (x : F) (w : World) : Calls Try.prog 67 #[.int .u8 x.n] w fun e w' => e = .returned (.tuple #[.agg (cs (fourL x)).toArray, .int .u8 (x * pw 2 4).n]) ∧ Below w.heap.size w w' := by
  have hz := zero_16
  go_enter Try.func67, Try.ntmps67
  go_wp2
  go_loopw [0, 6] (fun y i wr => ∃ (b : Nat) (l : List F), b ≤ 4 ∧ i = .int .i64 b ∧ y = .int .u8 (x * pw 2 b).n ∧ Blk wr w.heap.size 83 (cs l).toArray ∧ Below w.heap.size w wr ∧ Hid (Four l (2 ^ b) x)) (fun _ i _ => 4 - (intOf i).toNat)
  case atStart =>
    refine ⟨0, List.replicate 16 0, by omega, rfl, by rw [pw_zero, mul_one], by rw [← zero16_cs]; exact Blk.new _ _ _, (Below.refl _ _).alloc (Nat.le_refl _) _, ?_⟩
    refine ⟨by simp, fun i hi => ?_⟩
    obtain rfl : i = 0 := by omega
    rw [show ofN 0 = (0 : F) from rfl, zero_mul]
    rfl
  case round =>
    obtain ⟨b, l, hb, rfl, rfl, hblk, hbel, hF⟩ := hrel
    by_cases hlt : b < 4
    · have hbb : b = 0 ∨ b = 1 ∨ b = 2 ∨ b = 3 := by omega
      rcases hbb with rfl | rfl | rfl | rfl
      · rw [show (((0 : Nat) : Int)) = (0 : Int) from rfl]
        go_wp2
        go_loopw [11] (fun i wr2 => ∃ (k : Nat) (l2 : List F), k ≤ 1 ∧ i = .int .i64 k ∧ Blk wr2 w.heap.size 83 (cs l2).toArray ∧ Below w.heap.size w wr2 ∧ Hid (Four l2 (1 + k) x)) (fun i _ => 1 - (intOf i).toNat)
        case atStart => exact ⟨0, l, by omega, rfl, hblk, hbel, hF⟩
        case round =>
          clear hblk hbel hF
          obtain ⟨k, l2, hk, rfl, hblk, hbel, hF⟩ := hrel
          by_cases hlk : k < 1
          · obtain ⟨m, hm⟩ : ∃ m, m = 1 + k := ⟨_, rfl⟩
            have hki : (k : Int) < 1 := by omega
            have hk16 : (k : Int) < 16 := by omega
            have hmi : IntKind.i64.wrap ((1 : Int) + (k : Int)) = (m : Int) := (IntWalk.i64_in _ (by omega)).trans (by omega)
            have hmj : IntKind.i64.wrap (1 : Int) = 1 := by decide
            have hm16 : (m : Int) < 16 := by omega
            have hl2 := Lib.hid hF.out.1
            have hc1 := hblk.cell k
            rw [List.getElem?_toArray, cs_at (by rw [hl2.out]; omega)] at hc1
            have hf := hblk.frozen m
            have hc2 := hblk.cell m
            rw [List.getElem?_toArray, cs_at (by rw [hl2.out]; omega)] at hc2
            have hst := Lib.hid (hblk.set_ m (.int .u8 (gt l2 k + x * pw 2 0).n))
            have hF2 : Hid (Four (l2.set m (gt l2 k + x * pw 2 0)) (1 + (k + 1)) x) := by
              have h := Four.step (b := 0) (k := k) (y := x * pw 2 0) (by omega) (by omega) (by omega) rfl hF.out
              rw [hm]
              exact h
            clear hm
            go_wp2
            go_region_with ((first | (go_at_call 53; refine (Add_c _ _ _).mono ?_; rintro e w' ⟨rfl, rfl⟩)))
            all_goals go_wp2
            all_goals
              go_roundw
              case rel =>
                refine ⟨k + 1, _, by omega, by go_num, ?_, below_drewN (hbel.setCell (Nat.le_refl _) _) 1, hF2⟩
                have h := hst.out
                rw [List.setIfInBounds_toArray, cs_set] at h
                exact h
              case measure => simp [intOf]; omega
          · obtain rfl : k = 1 := by omega
            go_wp2_with (go_at_call 64; refine (timesX_c _ _).mono ?_; rintro e w' ⟨rfl, rfl⟩)
            go_roundw
            case rel =>
              refine ⟨0 + 1, l2, by omega, by go_num, ?_, hblk, hbel, hF⟩
              rw [tx_mul, show pw 2 (0 + 1) = pw 2 0 * 2 from rfl, ← mul_assoc]
            case measure => simp [intOf]
      · rw [show (((1 : Nat) : Int)) = (1 : Int) from rfl]
        go_wp2
        go_loopw [11] (fun i wr2 => ∃ (k : Nat) (l2 : List F), k ≤ 2 ∧ i = .int .i64 k ∧ Blk wr2 w.heap.size 83 (cs l2).toArray ∧ Below w.heap.size w wr2 ∧ Hid (Four l2 (2 + k) x)) (fun i _ => 2 - (intOf i).toNat)
        case atStart => exact ⟨0, l, by omega, rfl, hblk, hbel, hF⟩
        case round =>
          clear hblk hbel hF
          obtain ⟨k, l2, hk, rfl, hblk, hbel, hF⟩ := hrel
          by_cases hlk : k < 2
          · obtain ⟨m, hm⟩ : ∃ m, m = 2 + k := ⟨_, rfl⟩
            have hki : (k : Int) < 2 := by omega
            have hk16 : (k : Int) < 16 := by omega
            have hmi : IntKind.i64.wrap ((2 : Int) + (k : Int)) = (m : Int) := (IntWalk.i64_in _ (by omega)).trans (by omega)
            have hmj : IntKind.i64.wrap (2 : Int) = 2 := by decide
            have hm16 : (m : Int) < 16 := by omega
            have hl2 := Lib.hid hF.out.1
            have hc1 := hblk.cell k
            rw [List.getElem?_toArray, cs_at (by rw [hl2.out]; omega)] at hc1
            have hf := hblk.frozen m
            have hc2 := hblk.cell m
            rw [List.getElem?_toArray, cs_at (by rw [hl2.out]; omega)] at hc2
            have hst := Lib.hid (hblk.set_ m (.int .u8 (gt l2 k + x * pw 2 1).n))
            have hF2 : Hid (Four (l2.set m (gt l2 k + x * pw 2 1)) (2 + (k + 1)) x) := by
              have h := Four.step (b := 1) (k := k) (y := x * pw 2 1) (by omega) (by omega) (by omega) rfl hF.out
              rw [hm]
              exact h
            clear hm
            go_wp2
            go_region_with ((first | (go_at_call 53; refine (Add_c _ _ _).mono ?_; rintro e w' ⟨rfl, rfl⟩)))
            all_goals go_wp2
            all_goals
              go_roundw
              case rel =>
                refine ⟨k + 1, _, by omega, by go_num, ?_, below_drewN (hbel.setCell (Nat.le_refl _) _) 1, hF2⟩
                have h := hst.out
                rw [List.setIfInBounds_toArray, cs_set] at h
                exact h
              case measure => simp [intOf]; omega
          · obtain rfl : k = 2 := by omega
            go_wp2_with (go_at_call 64; refine (timesX_c _ _).mono ?_; rintro e w' ⟨rfl, rfl⟩)
            go_roundw
            case rel =>
              refine ⟨1 + 1, l2, by omega, by go_num, ?_, hblk, hbel, hF⟩
              rw [tx_mul, show pw 2 (1 + 1) = pw 2 1 * 2 from rfl, ← mul_assoc]
            case measure => simp [intOf]
      · rw [show (((2 : Nat) : Int)) = (2 : Int) from rfl]
        go_wp2
        go_loopw [11] (fun i wr2 => ∃ (k : Nat) (l2 : List F), k ≤ 4 ∧ i = .int .i64 k ∧ Blk wr2 w.heap.size 83 (cs l2).toArray ∧ Below w.heap.size w wr2 ∧ Hid (Four l2 (4 + k) x)) (fun i _ => 4 - (intOf i).toNat)
        case atStart => exact ⟨0, l, by omega, rfl, hblk, hbel, hF⟩
        case round =>
          clear hblk hbel hF
          obtain ⟨k, l2, hk, rfl, hblk, hbel, hF⟩ := hrel
          by_cases hlk : k < 4
          · obtain ⟨m, hm⟩ : ∃ m, m = 4 + k := ⟨_, rfl⟩
            have hki : (k : Int) < 4 := by omega
            have hk16 : (k : Int) < 16 := by omega
            have hmi : IntKind.i64.wrap ((4 : Int) + (k : Int)) = (m : Int) := (IntWalk.i64_in _ (by omega)).trans (by omega)
            have hmj : IntKind.i64.wrap (4 : Int) = 4 := by decide
            have hm16 : (m : Int) < 16 := by omega
            have hl2 := Lib.hid hF.out.1
            have hc1 := hblk.cell k
            rw [List.getElem?_toArray, cs_at (by rw [hl2.out]; omega)] at hc1
            have hf := hblk.frozen m
            have hc2 := hblk.cell m
            rw [List.getElem?_toArray, cs_at (by rw [hl2.out]; omega)] at hc2
            have hst := Lib.hid (hblk.set_ m (.int .u8 (gt l2 k + x * pw 2 2).n))
            have hF2 : Hid (Four (l2.set m (gt l2 k + x * pw 2 2)) (4 + (k + 1)) x) := by
              have h := Four.step (b := 2) (k := k) (y := x * pw 2 2) (by omega) (by omega) (by omega) rfl hF.out
              rw [hm]
              exact h
            clear hm
            go_wp2
            go_region_with ((first | (go_at_call 53; refine (Add_c _ _ _).mono ?_; rintro e w' ⟨rfl, rfl⟩)))
            all_goals go_wp2
            all_goals
              go_roundw
              case rel =>
                refine ⟨k + 1, _, by omega, by go_num, ?_, below_drewN (hbel.setCell (Nat.le_refl _) _) 1, hF2⟩
                have h := hst.out
                rw [List.setIfInBounds_toArray, cs_set] at h
                exact h
              case measure => simp [intOf]; omega
          · obtain rfl : k = 4 := by omega
            go_wp2_with (go_at_call 64; refine (timesX_c _ _).mono ?_; rintro e w' ⟨rfl, rfl⟩)
            go_roundw
            case rel =>
              refine ⟨2 + 1, l2, by omega, by go_num, ?_, hblk, hbel, hF⟩
              rw [tx_mul, show pw 2 (2 + 1) = pw 2 2 * 2 from rfl, ← mul_assoc]
            case measure => simp [intOf]
      · rw [show (((3 : Nat) : Int)) = (3 : Int) from rfl]
        go_wp2
        go_loopw [11] (fun i wr2 => ∃ (k : Nat) (l2 : List F), k ≤ 8 ∧ i = .int .i64 k ∧ Blk wr2 w.heap.size 83 (cs l2).toArray ∧ Below w.heap.size w wr2 ∧ Hid (Four l2 (8 + k) x)) (fun i _ => 8 - (intOf i).toNat)
        case atStart => exact ⟨0, l, by omega, rfl, hblk, hbel, hF⟩
        case round =>
          clear hblk hbel hF
          obtain ⟨k, l2, hk, rfl, hblk, hbel, hF⟩ := hrel
          by_cases hlk : k < 8
          · obtain ⟨m, hm⟩ : ∃ m, m = 8 + k := ⟨_, rfl⟩
            have hki : (k : Int) < 8 := by omega
            have hk16 : (k : Int) < 16 := by omega
            have hmi : IntKind.i64.wrap ((8 : Int) + (k : Int)) = (m : Int) := (IntWalk.i64_in _ (by omega)).trans (by omega)
            have hmj : IntKind.i64.wrap (8 : Int) = 8 := by decide
            have hm16 : (m : Int) < 16 := by omega
            have hl2 := Lib.hid hF.out.1
            have hc1 := hblk.cell k
            rw [List.getElem?_toArray, cs_at (by rw [hl2.out]; omega)] at hc1
            have hf := hblk.frozen m
            have hc2 := hblk.cell m
            rw [List.getElem?_toArray, cs_at (by rw [hl2.out]; omega)] at hc2
            have hst := Lib.hid (hblk.set_ m (.int .u8 (gt l2 k + x * pw 2 3).n))
            have hF2 : Hid (Four (l2.set m (gt l2 k + x * pw 2 3)) (8 + (k + 1)) x) := by
              have h := Four.step (b := 3) (k := k) (y := x * pw 2 3) (by omega) (by omega) (by omega) rfl hF.out
              rw [hm]
              exact h
            clear hm
            go_wp2
            go_region_with ((first | (go_at_call 53; refine (Add_c _ _ _).mono ?_; rintro e w' ⟨rfl, rfl⟩)))
            all_goals go_wp2
            all_goals
              go_roundw
              case rel =>
                refine ⟨k + 1, _, by omega, by go_num, ?_, below_drewN (hbel.setCell (Nat.le_refl _) _) 1, hF2⟩
                have h := hst.out
                rw [List.setIfInBounds_toArray, cs_set] at h
                exact h
              case measure => simp [intOf]; omega
          · obtain rfl : k = 8 := by omega
            go_wp2_with (go_at_call 64; refine (timesX_c _ _).mono ?_; rintro e w' ⟨rfl, rfl⟩)
            go_roundw
            case rel =>
              refine ⟨3 + 1, l2, by omega, by go_num, ?_, hblk, hbel, hF⟩
              rw [tx_mul, show pw 2 (3 + 1) = pw 2 3 * 2 from rfl, ← mul_assoc]
            case measure => simp [intOf]
    · obtain rfl : b = 4 := by omega
      have hfin := hF.out.fin
      subst hfin
      have hld := load_16 wr w.heap.size _ (fourL_length x) hblk
      have hst := storeCells_16 wr w.heap.size _ _ (by rw [List.size_toArray, cs_length, fourL_length]) (fourL_length x) hblk
      have hlen : (cs (fourL x)).length = 16 := by rw [cs_length, fourL_length]
      have hld2 := load_16 _ w.heap.size _ (fourL_length x) (hblk.setRow (cs (fourL x)).toArray)
      have hbel2 := below_setRow hbel (Nat.le_refl _) (cs (fourL x)).toArray
      go_wp2_with ((with_reducible refine wpList_load_var w.heap.size _ ?hp hld ?hK); case hp => rfl)
      refine bodyPost_ret (v := .tuple #[.agg (cs (fourL x)).toArray, .int .u8 (x * pw 2 4).n]) ?_ rfl ⟨rfl, hbel2⟩
      rw [results_cell_tmp rfl]
      simp [asAddr, Result.andThen, hld2]
theorem store_new (w : World) (l : List F) (hl : l.length = 16) : Sem.run Try.prog (storeCells ⟨w.heap.size, 0, none⟩ (cs l) 0) (w.alloc (.cells zero16 83)) = .ok () (w.alloc (.cells (cs l).toArray 83)) := by
  have h := storeCells_16 (w.alloc (.cells zero16 83)) w.heap.size zero16 l rfl hl (Blk.new _ _ _)
  rw [World.setRow_alloc_new] at h
  exact h
end Go.Proofs.Ytbmkcnlcffnjgaa
