/-
  LAW 13's WALK: MatchRuns: it returns true, and writes nothing that was there. No conditions.
-/
import Derived.Test.YtkjogejakenmeaaLaw13d
namespace Go.Proofs.Ytkjogejakenmeaa
open Go.RowKit
set_option maxRecDepth 1000000
set_option linter.unusedVariables false

def RunTo (c : F) (N k : Nat) (xl : List F) : Prop := xl.length = N ∧ ∀ j, j < k → gt xl j = c
theorem RunTo.next {c : F} {N k : Nat} {xl : List F} (h : RunTo c N k xl) (hk : k < N) : RunTo c N (k + 1) (xl.set k c) := by
  refine ⟨by rw [List.length_set]; exact h.1, fun j hj => ?_⟩
  rw [gt_lt (by rw [List.length_set, h.1]; omega), List.getElem_set]
  split
  · rfl
  · have := h.2 j (by omega)
    rwa [gt_lt (by rw [h.1]; omega)] at this
theorem RunTo.all {c : F} {N : Nat} {xl : List F} (h : RunTo c N N xl) : xl = List.replicate N c := by
  rw [List.eq_replicate_iff]
  refine ⟨h.1, fun b hb => ?_⟩
  obtain ⟨j, hj, rfl⟩ := List.mem_iff_getElem.1 hb
  have := h.2 j (by rw [← h.1]; exact hj)
  rwa [gt_lt hj] at this
set_option maxHeartbeats 2000000 in
theorem walk_MatchRuns (w : World) (x : F) (v : Int) (hv : (Lit.int .i64 v).wf = true) (u : Int) (hu : (Lit.int .i64 u).wf = true) :
    Calls Try.prog 5 #[.int .u8 x.n, .int .i64 v, .int .i64 u] w fun e w' => e = .returned (.bool true) ∧ Below w.heap.size w w' := by
  obtain ⟨i0, hi, hz0, hz1, hz2⟩ := info_parts info_u8
  have HAL := Lib.hid (alive13_c w)
  have ea : bits .and .i64 v 1023 = v % 1024 := andLow v 10 (by decide)
  have eb : bits .and .i64 u 7 = u % 8 := andLow u 3 (by decide)
  obtain ⟨N, hN⟩ : ∃ N : Nat, v % 1024 = (N : Int) := ⟨(v % 1024).toNat, by omega⟩
  obtain ⟨L, hL⟩ : ∃ L : Nat, u % 8 = (L : Int) := ⟨(u % 8).toNat, by omega⟩
  have hN3 : N ≤ 1023 := by omega
  have hL3 : L ≤ 7 := by omega
  rw [hN] at ea
  rw [hL] at eb
  have HOK := Lib.hid (fdF_ok (List.replicate N x) (L + 1))
  have HFEW := Lib.hid (run_few x N (lev := L + 1) (by omega))
  clear hN hL hv hu
  go_enter Try.func5, Try.ntmps5
  go_wp2_with fail
  refine HAL.out.mono ?_
  rintro e w1 ⟨rfl, hb1⟩
  have HB1 := Lib.hid hb1
  clear hb1
  go_wp2_with (at_make; refine wpList_make_full _ rfl _ _ 23 rfl w1.heap.size 5 i0 (.int .u8 0) 1 Try.underlying23 hi hz0 hz1 _ _ _ _ N rfl rfl rfl rfl (by rw [hz2]; omega) (by unfold maxLen; omega) (Nat.le_refl _) ?_; intro w4 hown4 hgrow4)
  have e0 : madeCells (Value.int .u8 0).cells (N * 1) = madeCells #[.int .u8 0] N := by rw [Nat.mul_one]; rfl
  rw [e0, toList_madeCells_one, ← cs_replicate] at hown4
  have hb4 := (Below.refl w1.heap.size w1).grown hgrow4 (Nat.le_refl _) (fun z e => by cases e)
  have HO4 := Lib.hid hown4
  have HB4 := Lib.hid hb4
  clear hown4 hgrow4 hb4 e0
  go_wp2
  go_loopw [23] (fun i wr2 => ∃ (k : Nat) (xl : List F), k ≤ N ∧ i = .int .i64 k ∧ Hid (wr2.ownsRow w1.heap.size 5 1 (.slice (some ⟨w1.heap.size, 0, none⟩) N N) N (cs xl)) ∧ Hid (Below w1.heap.size w1 wr2) ∧ Hid (RunTo x N k xl)) (fun i _ => N - (intOf i).toNat)
  case atStart => exact ⟨0, _, by omega, rfl, HO4.out, HB4.out, ⟨by simp, fun j hj => by omega⟩⟩
  case round =>
    clear HO4 HB4
    obtain ⟨k, xl, hk, rfl, hown4, hb4, hrun⟩ := hrel
    by_cases hlt : k < N
    · have hlti : (k : Int) < (N : Int) := by omega
      have qx := hown4.out.cellAt k (by omega)
      rw [cs_at (by rw [hrun.out.1]; omega)] at qx
      have fx := hown4.out.frozenAt k
      have hst := Lib.hid (hown4.out.stored k (.int .u8 x.n)).1
      go_wp2
      go_roundw
      case rel =>
        refine ⟨k + 1, _, by omega, by go_num, ?_, hb4.out.setCell (Nat.le_refl _) _, hrun.out.next hlt⟩
        have h := hst.out
        rw [cs_set] at h
        exact h
      case measure => simp [intOf]; omega
    · obtain rfl : k = N := by omega
      obtain rfl := hrun.out.all
      have HO5 := Lib.hid (own_in hown4.out)
      have HB5 := Lib.hid (HB1.out.trans (hb4.out.mono HB1.out.size))
      clear hown4 hb4 hrun
      go_wp2_with fail
      refine (Find_c (some ⟨w1.heap.size, 0, none⟩) k k (List.replicate k x) _ HO5.out (by omega) (1 + (L : Int)) (L + 1) (by omega)).mono ?_
      rintro e w6 ⟨A6, c6, n6, rfl, hn6, hown6, hb6⟩
      obtain ⟨ht, hle⟩ := fd_row hown6 hn6 (by rw [List.length_replicate]; omega)
      have hfew : n6 ≤ 4 + k / 258 := by rw [hn6]; exact HFEW.out
      rw [List.length_replicate] at hle
      have HT := Lib.hid ht
      have HO6 := Lib.hid (HO5.out.below hb6)
      have HB6 := Lib.hid (HB5.out.trans (hb6.mono HB5.out.size))
      clear hn6 hown6 ht hb6 HO5
      go_wp2_with fail
      refine (RExp_c A6 n6 c6 _ w6 HT.out (by omega) (k : Int) k (by omega) (by omega)).mono ?_
      rintro e w7 (⟨z, g1, _⟩ | ⟨o, A7, n7, c7, g1, g2, rfl, g3, g4⟩)
      · have := HOK.out.1
        rw [List.length_replicate, g1] at this; cases this
      have g5 : o = List.replicate k x := by
        have := HOK.out.1
        rw [List.length_replicate, g1] at this
        injection this
      subst g5
      rw [List.length_replicate] at g2
      subst g2
      have HO7 := Lib.hid (Row.of_own g3)
      have HR7 := Lib.hid (HO6.out.below g4).row
      have HB7 := Lib.hid (HB6.out.trans (g4.mono HB6.out.size))
      clear g1 g3 g4 HO6
      go_wp2_with fail
      refine (Same_c A7 _ n7 c7 n7 _ _ w7 HO7.out HR7.out rfl).mono ?_
      rintro e w8 ⟨rfl, q8, rfl⟩
      have HB8 := Lib.hid (below_drewN HB7.out q8)
      generalize w7.drewN q8 = w8 at *
      have hfi : (n6 : Int) ≤ 4 + (n7 : Int) / 258 := by omega
      go_wp2
      go_ret
      exact ⟨rfl, HB8.out⟩
end Go.Proofs.Ytkjogejakenmeaa
