/-
  LENGTHS' AND DISTANCES' CODES: the document's own Length and Dist, the order, the laws' own examples. No conditions.
-/
import Derived.Test.YtpefbhjlmlhmoaaDoorSymR
import Derived.Test.YtpefbhjlmlhmoaaDoorSameI
namespace Go.Proofs.YtpefbhjlmlhmoaaDoor
open Go.RowKit
set_option maxRecDepth 100000
set_option linter.unusedVariables false

set_option maxHeartbeats 1000000 in
theorem RefLength_c (n : Int) (w : World) :
    Calls Tryd.prog 8 #[.int .i64 n] w fun e w' => e = .returned (.tuple #[.int .i64 (lenC n : Nat), .int .i64 (lenX n : Nat), .int .i64 (lenV n : Nat)]) ∧ w = w' := by
  by_cases h : 3 ≤ n ∧ n ≤ 258
  · obtain ⟨n, rfl⟩ : ∃ m : Nat, n = (m : Int) := ⟨n.toNat, by omega⟩
    have hn : 3 ≤ n ∧ n ≤ 258 := by omega
    have s1 : ((n : Int) < 3) = False := by simp; omega
    have s2 : ((258 : Int) < (n : Int)) = False := by simp; omega
    by_cases h258 : n = 258
    · obtain ⟨r1, r2, r3⟩ := len_at hn (show fndL n 28 = 28 by subst h258; rfl)
      have R1 : Hid (lenC n = 285) := r1
      have R2 : Hid (lenX n = 0) := r2
      have R3 : Hid (lenV n = 0) := by unfold Hid; rw [r3, h258]; rfl
      have s3 : ¬ (n : Int) < 258 := by omega
      clear h hn r1 r2 r3 h258
      go_enter Tryd.func8, Tryd.ntmps8
      go_wp2
      go_loop [5] (fun c => c = .int .i64 285) (fun c => (intOf c).toNat)
      case atStart => rfl
      case round =>
        obtain rfl := hrel
        go_wp2
        go_ret3
        rw [R1.out, R2.out, R3.out]
        exact ⟨rfl, rfl⟩
    · have s3 : (n : Int) < 258 := by omega
      have HN := Lib.hid hn
      have H58 := Lib.hid h258
      clear h hn h258
      go_enter Tryd.func8, Tryd.ntmps8
      go_wp2
      go_loop [5] (fun c => ∃ k d : Nat, k < 29 ∧ Hid (d = 257 + k) ∧ c = .int .i64 (d : Int) ∧ Hid (fndL n 28 = fndL n k)) (fun c => (intOf c).toNat)
      case atStart => exact ⟨28, 285, by omega, rfl, rfl, rfl⟩
      case round =>
        obtain ⟨k, d, hk, hd, rfl, hf⟩ := hrel
        have hl := lb_lt hk
        have hcl := RefLengthBase_c (d : Int)
        obtain ⟨e1, e2, e3⟩ := lok_at k hk
        rw [← hd.out] at e1 e2 e3
        rw [e1, e2, e3] at hcl
        have hd6 : d < 300 := by have := hd.out; omega
        obtain ⟨b, hb⟩ : ∃ b, b = lb k := ⟨_, rfl⟩
        rw [← hb] at hcl hl
        have HCL := Lib.hid hcl
        clear hcl e1 e2 e3
        by_cases hlt : n < b
        · obtain ⟨j, hkj⟩ : ∃ j, k = j + 1 := by
            cases k with
            | zero => exfalso; have := HN.out; have : lb 0 = 3 := rfl; omega
            | succ j => exact ⟨j, rfl⟩
          have hlt' : ¬ (b : Int) ≤ (n : Int) := by omega
          have hj : Hid (fndL n 28 = fndL n j) := by
            unfold Hid
            rw [hf.out, hkj]
            exact if_pos (by rw [← hkj, ← hb]; exact hlt)
          obtain ⟨d', hd'⟩ : ∃ d', d = d' + 1 := ⟨d - 1, by have := hd.out; omega⟩
          have s4 : (d : Int) - 1 = (d' : Int) := by omega
          have HKJ := Lib.hid hkj
          have HD' := Lib.hid hd'
          clear hb hf hkj hd'
          go_wp2_with (go_at_call 12; refine (HCL.out _).mono ?_; rintro e w' ⟨rfl, rfl⟩)
          go_round
          case rel => exact ⟨j, d', by have := HKJ.out; omega, by have := hd.out; have := HD'.out; have := HKJ.out; unfold Hid; omega, rfl, hj⟩
          case measure => have := HD'.out; simp [intOf]; omega
        · have hlt' : (b : Int) ≤ (n : Int) := by omega
          have hle : lb k ≤ n := by omega
          obtain ⟨r1, r2, r3⟩ := len_at HN.out (hf.out.trans (fndL_hit hle))
          rw [← hd.out] at r1
          rw [← hb] at r3
          have R1 := Lib.hid r1
          have R2 := Lib.hid r2
          have R3 := Lib.hid r3
          obtain ⟨v, hv⟩ : ∃ v, v = n - b := ⟨_, rfl⟩
          rw [← hv] at R3
          have s5 : (n : Int) - (b : Int) = (v : Int) := by omega
          have hv9 : v ≤ 32768 := by have := HN.out; omega
          clear hb hf r1 r2 r3 hle hv
          go_wp2_with (go_at_call 12; refine (HCL.out _).mono ?_; rintro e w' ⟨rfl, rfl⟩)
          go_ret3
          rw [R1.out, R2.out, R3.out]
          exact ⟨rfl, rfl⟩
  · obtain ⟨e1, e2, e3⟩ := len_no h
    rw [e1, e2, e3]
    by_cases h1 : n < 3
    · clear h
      go_enter Tryd.func8, Tryd.ntmps8
      go_wp2
      go_ret3
      exact ⟨rfl, rfl⟩
    · have h2 : 258 < n := by omega
      clear h
      go_enter Tryd.func8, Tryd.ntmps8
      go_wp2
      go_ret3
      exact ⟨rfl, rfl⟩
set_option maxHeartbeats 1000000 in
theorem RefDist_c (n : Int) (w : World) :
    Calls Tryd.prog 10 #[.int .i64 n] w fun e w' => e = .returned (.tuple #[.int .i64 (dstC n : Nat), .int .i64 (dstX n : Nat), .int .i64 (dstV n : Nat)]) ∧ w = w' := by
  by_cases h : 1 ≤ n ∧ n ≤ 32768
  · obtain ⟨n, rfl⟩ : ∃ m : Nat, n = (m : Int) := ⟨n.toNat, by omega⟩
    have hn : 1 ≤ n ∧ n ≤ 32768 := by omega
    have s1 : ((n : Int) < 1) = False := by simp; omega
    have s2 : ((32768 : Int) < (n : Int)) = False := by simp; omega
    have HN := Lib.hid hn
    clear h hn
    go_enter Tryd.func10, Tryd.ntmps10
    go_wp2
    go_loop [5] (fun c => ∃ k : Nat, k < 30 ∧ c = .int .i64 (k : Int) ∧ Hid (fndD n 29 = fndD n k)) (fun c => (intOf c).toNat)
    case atStart => exact ⟨29, by omega, rfl, rfl⟩
    case round =>
      obtain ⟨k, hk, rfl, hf⟩ := hrel
      by_cases hk0 : k = 0
      · obtain ⟨r1, r2, r3⟩ := dst_at HN.out (hf.out.trans (show fndD n k = 0 by subst hk0; rfl))
        have h1 : fndD n 29 = 0 := hf.out.trans (by subst hk0; rfl)
        have hn1 : n = 1 := by
          have h2 := HN.out
          rcases Nat.lt_or_ge n 2 with h3 | h3
          · omega
          · exfalso
            have key : ∀ k, k < 30 → 1 ≤ k → 1 ≤ fndD n k := by
              intro k
              induction k with
              | zero => intro _ h; omega
              | succ k ih =>
                intro h4 _
                show 1 ≤ (if n < db (k + 1) then fndD n k else k + 1)
                split
                · rename_i h5
                  by_cases h6 : k = 0
                  · subst h6; have : db (0 + 1) = 2 := rfl; omega
                  · exact ih (by omega) (by omega)
                · omega
            have := key 29 (by omega) (by omega)
            omega
        have R1 := Lib.hid r1
        have R2 := Lib.hid r2
        have R3 : Hid (dstV n = 0) := by unfold Hid; rw [r3, hn1]; rfl
        have s4 : ¬ (0 : Int) < (k : Int) := by omega
        clear hf r1 r2 r3 h1 hn1 hk0
        go_wp2
        go_ret3
        rw [R1.out, R2.out, R3.out]
        exact ⟨rfl, rfl⟩
      · have s4 : (0 : Int) < (k : Int) := by omega
        have hl := db_lt hk
        have hcl := RefDistBase_c (k : Int)
        obtain ⟨e1, e2, e3⟩ := dok_at k hk
        rw [e1, e2, e3] at hcl
        obtain ⟨b, hb⟩ : ∃ b, b = db k := ⟨_, rfl⟩
        rw [← hb] at hcl hl
        have HCL := Lib.hid hcl
        clear hcl e1 e2 e3
        by_cases hlt : n < b
        · obtain ⟨j, hkj⟩ : ∃ j, k = j + 1 := ⟨k - 1, by omega⟩
          have hlt' : ¬ (b : Int) ≤ (n : Int) := by omega
          have hj : Hid (fndD n 29 = fndD n j) := by
            unfold Hid
            rw [hf.out, hkj]
            exact if_pos (by rw [← hkj, ← hb]; exact hlt)
          have s5 : (k : Int) - 1 = (j : Int) := by omega
          have HKJ := Lib.hid hkj
          clear hb hf hkj hk0
          go_wp2_with (go_at_call 14; refine (HCL.out _).mono ?_; rintro e w' ⟨rfl, rfl⟩)
          go_round
          case rel => exact ⟨j, by have := HKJ.out; omega, rfl, hj⟩
          case measure => have := HKJ.out; simp [intOf]; omega
        · have hlt' : (b : Int) ≤ (n : Int) := by omega
          have hle : db k ≤ n := by omega
          obtain ⟨r1, r2, r3⟩ := dst_at HN.out (hf.out.trans (fndD_hit hle))
          rw [← hb] at r3
          have R1 := Lib.hid r1
          have R2 := Lib.hid r2
          have R3 := Lib.hid r3
          obtain ⟨v, hv⟩ : ∃ v, v = n - b := ⟨_, rfl⟩
          rw [← hv] at R3
          have s5 : (n : Int) - (b : Int) = (v : Int) := by omega
          have hv9 : v ≤ 32768 := by have := HN.out; omega
          clear hb hf r1 r2 r3 hle hv hk0
          go_wp2_with (go_at_call 14; refine (HCL.out _).mono ?_; rintro e w' ⟨rfl, rfl⟩)
          go_ret3
          rw [R1.out, R2.out, R3.out]
          exact ⟨rfl, rfl⟩
  · obtain ⟨e1, e2, e3⟩ := dst_no h
    rw [e1, e2, e3]
    by_cases h1 : n < 1
    · clear h
      go_enter Tryd.func10, Tryd.ntmps10
      go_wp2
      go_ret3
      exact ⟨rfl, rfl⟩
    · have h2 : 32768 < n := by omega
      clear h
      go_enter Tryd.func10, Tryd.ntmps10
      go_wp2
      go_ret3
      exact ⟨rfl, rfl⟩

/-! ### The order -/
def ordL : List Int := [16, 17, 18, 0, 8, 7, 9, 6, 10, 5, 11, 4, 12, 3, 13, 2, 14, 1, 15]
def ordC : Array Value := (ordL.map fun x => Value.int .i64 x).toArray
def ordV (w : World) : World := w.alloc (.cells ordC 3)
set_option maxHeartbeats 400000 in
theorem Order_c (w : World) : Calls Tryd.prog 16 #[] w fun e w' => e = .returned (.slice (some ⟨w.heap.size, 0, none⟩) 19 19) ∧ w' = ordV w := by
  go_enter Tryd.func16, Tryd.ntmps16
  go_wp2
  go_ret
  exact ⟨rfl, rfl⟩
set_option maxHeartbeats 400000 in
theorem RefOrder_c (w : World) : Calls Tryd.prog 17 #[] w fun e w' => e = .returned (.slice (some ⟨w.heap.size, 0, none⟩) 19 19) ∧ w' = ordV w := by
  go_enter Tryd.func17, Tryd.ntmps17
  go_wp2
  go_ret
  exact ⟨rfl, rfl⟩
theorem ordV_below (w : World) : Below w.heap.size w (ordV w) := (Below.refl _ _).alloc (Nat.le_refl _) _
theorem ordV_row (w : World) : IRow (ordV w) (some ⟨w.heap.size, 0, none⟩) 19 .i64 ordL := by
  refine ⟨rfl, by unfold maxLen; omega, fun _ => ⟨w.heap.size, 0, rfl, by simp [ordV], fun i hi => ?_⟩, ?_⟩
  · have h := heap_alloc_new w (.cells ordC 3)
    rw [Nat.zero_add]
    show (w.alloc _).cell? _ = _
    rw [cell_of_row _ _ i _ 3 (0, 0) h]
    have : ∀ i, i < 19 → ordC[i]? = some (.int .i64 (gi ordL i)) := by
      intro i hi
      have hl : i < ordL.length := hi
      unfold ordC gi
      rw [List.getElem?_toArray, List.getElem?_map, List.getD_eq_getElem?_getD, List.getElem?_eq_getElem hl]
      rfl
    exact this i hi
  · have : ∀ i, i < 19 → (Lit.int .i64 (gi ordL i)).wf = true := by decide +kernel
    exact this
theorem ordV_size (w : World) : (ordV w).heap.size = w.heap.size + 1 := by simp [ordV]
set_option maxHeartbeats 2000000 in
theorem alive11_c (w : World) (ht : Tabs w) : Calls Tryd.prog 6 #[] w fun e w' => e = .returned (.bool true) ∧ Below w.heap.size w w' := by
  have c1 := fun W h => Length_c 12 W h
  have c2 := fun W h => Dist_c 8 W h
  have c3 := fun W h => Length_c 258 W h
  rw [show lenC 12 = 265 by decide +kernel, show lenX 12 = 1 by decide +kernel, show lenV 12 = 1 by decide +kernel] at c1
  rw [show dstC 8 = 5 by decide +kernel, show dstX 8 = 1 by decide +kernel, show dstV 8 = 1 by decide +kernel] at c2
  rw [show lenC 258 = 285 by decide +kernel, show lenX 258 = 0 by decide +kernel, show lenV 258 = 0 by decide +kernel] at c3
  go_enter Tryd.func6, Tryd.ntmps6
  go_wp2_with fail
  refine (c1 w ht).mono ?_
  rintro e w' ⟨rfl, rfl⟩
  go_wp2_with fail
  refine (c2 w ht).mono ?_
  rintro e w' ⟨rfl, rfl⟩
  go_wp2_with fail
  refine (c3 w ht).mono ?_
  rintro e w' ⟨rfl, rfl⟩
  go_wp2_with fail
  refine (Order_c w).mono ?_
  rintro e w' ⟨rfl, rfl⟩
  have hb := ordV_below w
  generalize ordV w = w1 at *
  go_wp2
  go_ret
  exact ⟨rfl, hb⟩
end Go.Proofs.YtpefbhjlmlhmoaaDoor
