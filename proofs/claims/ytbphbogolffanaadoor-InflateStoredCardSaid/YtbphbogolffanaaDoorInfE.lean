/-
  THE CONTRACT OF slices.Concat of rows of numbers (none empty). No conditions.
-/
import Derived.Test.YtbphbogolffanaaDoorInfD
import Derived.Lib.AppendZeros
namespace Go.Proofs.YtbphbogolffanaaDoor
open Go.RowKit
set_option maxRecDepth 100000
set_option linter.unusedVariables false

set_option maxHeartbeats 1000000 in
theorem Grow0_c (n : Nat) (h1 : 1 ≤ n) (hn : n ≤ 1000000) (w : World) :
    Calls Tryd.prog 59 #[.slice none 0 0, .int .i64 n] w fun e w' => ∃ g c, e = .returned (.slice (some ⟨g, 0, none⟩) 0 c) ∧ w'.ownsRow w.heap.size 3 1 (.slice (some ⟨g, 0, none⟩) 0 c) 0 [] ∧ Below w.heap.size w w' := by
  obtain ⟨i0, hi, hz0, hz1, hz2⟩ := info_parts info_int
  have hr : ∀ ty, (Builtin.append_ #[35, 3] ty #[.slice none 0 0, .int .i64 n]).run Tryd.prog w = _ := fun ty => Lib.run_append_nil_zeros w 35 3 ty 3 i0 (.int .i64 0) .i64 .i64 Tryd.underlying35 Tryd.underlying3 hi hz0 n (by omega) (by rw [hz1]; omega) (by omega) (by rw [hz2]; omega)
  have hge := grownCap_ge w n 0 3
  have hle := grownCap_le_maxLen w n 0 3 (by unfold maxLen; omega)
  have hO : Hid ((w.drew.alloc (.cells (Builtin.zeroCells (Value.int .i64 0).cells n ++ Builtin.zeroCells (Value.int .i64 0).cells (grownCap w n 0 3 - n)) 3)).ownsRow w.heap.size 3 1 (.slice (some ⟨w.heap.size, 0, none⟩) 0 (grownCap w n 0 3)) 0 []) := by
    refine ⟨rfl, .inr ⟨w.heap.size, _, _, rfl, Nat.le_refl _, heap_alloc_new w.drew _, Nat.zero_le _, hle, ?_, by simp⟩⟩
    have e1 : (Value.int .i64 0).cells.size = 1 := rfl
    rw [Array.size_append, size_zeroCells, size_zeroCells, e1]
    omega
  have hB : Below w.heap.size w (w.drew.alloc (.cells (Builtin.zeroCells (Value.int .i64 0).cells n ++ Builtin.zeroCells (Value.int .i64 0).cells (grownCap w n 0 3 - n)) 3)) := ((Below.refl _ w).drew).alloc (Nat.le_refl _) _
  have HB := Lib.hid hB
  clear hB
  obtain ⟨G, hG⟩ : ∃ G, G = grownCap w n 0 3 := ⟨_, rfl⟩
  rw [← hG] at hr hO HB hge hle
  unfold maxLen at hle
  have hn1 : ¬ ((n : Int) < 0) := by omega
  clear hG
  go_enter Tryd.func59, Tryd.ntmps59
  go_wp2_with (at_builtin; refine Lib.wpList_append_run _ rfl _ _ _ _ rfl _ _ rfl rfl _ _ (hr _) ?_)
  go_ret
  exact ⟨_, G, rfl, hO.out, HB.out⟩
/-- the first k rows, one behind the other -/
def catI (R : Nat → List Int) : Nat → List Int
  | 0 => []
  | k + 1 => catI R k ++ R k
theorem catI_len (R : Nat → List Int) (k : Nat) : (catI R (k + 1)).length = (catI R k).length + (R k).length := by
  show (catI R k ++ R k).length = _
  rw [List.length_append]
theorem catI_mono (R : Nat → List Int) {a b : Nat} (h : a ≤ b) : (catI R a).length ≤ (catI R b).length := by
  induction b with
  | zero => obtain rfl : a = 0 := by omega
            exact Nat.le_refl _
  | succ b ih =>
    by_cases e : a = b + 1
    · subst e; exact Nat.le_refl _
    · have := ih (by omega)
      have := catI_len R b
      omega
set_option maxHeartbeats 2000000 in
theorem Concat_c (g k ck : Nat) (RA : Nat → Option Addr) (RL RC : Nat → Nat) (R : Nat → List Int) (w : World) (hg : g < w.heap.size) (hk : 1 ≤ k) (hk2 : k ≤ 100)
    (hcell : ∀ i, i < k → w.cell? ⟨g, i, none⟩ = some (.slice (RA i) (RL i) (RC i))) (hR : ∀ i, i < k → IRow w (RA i) (RL i) .i64 (R i) ∧ 0 < RL i) (hN : (catI R k).length ≤ 100000) :
    Calls Tryd.prog 45 #[.slice (some ⟨g, 0, none⟩) k ck] w fun e w' => ∃ g' c' N, e = .returned (.slice (some ⟨g', 0, none⟩) N c') ∧ Hid (N = (catI R k).length) ∧ w'.ownsRow w.heap.size 3 1 (.slice (some ⟨g', 0, none⟩) N c') N (iC (catI R k)) ∧ Below w.heap.size w w' := by
  obtain ⟨i0, hi, hz0, hz1, hz2⟩ := info_parts info_int
  have HC := Lib.hid hcell
  have HR := Lib.hid hR
  have HN := Lib.hid hN
  have hlen : Hid (∀ i, i < k → RL i ≤ 100000 ∧ (R i).length = RL i ∧ 0 < RL i) := fun i hi => by
    have h1 := (hR i hi).1.len
    have h2 := catI_mono R (a := i + 1) (b := k) (by omega)
    have h3 := catI_len R i
    exact ⟨by omega, h1, (hR i hi).2⟩
  clear hcell hR hN
  go_enter Tryd.func45, Tryd.ntmps45
  go_wp2
  go_loop [3, 11] (fun sz i => ∃ j s : Nat, j ≤ k ∧ i = .int .i64 j ∧ sz = .int .i64 s ∧ s ≤ 100000 ∧ Hid (s = (catI R j).length)) (fun _ i => k - (intOf i).toNat)
  case atStart => exact ⟨0, 0, by omega, rfl, rfl, by omega, rfl⟩
  case round =>
    obtain ⟨j, s, hj, rfl, rfl, hs, hcat⟩ := hrel
    by_cases hlt : j < k
    · have hjk : (j : Int) < (k : Int) := by omega
      have q1 := HC.out j hlt
      obtain ⟨h1, h2, h3⟩ := hlen.out j hlt
      have h4 := catI_len R j
      have h5 := catI_mono R (a := j + 1) (b := k) (by omega)
      have h6 := HN.out
      have h7 := hcat.out
      obtain ⟨t, ht⟩ : ∃ t, t = RL j := ⟨_, rfl⟩
      rw [← ht] at q1 h1 h2 h3
      have hs2 : s + t ≤ 100000 := by omega
      have hcat2 : Hid (s + t = (catI R (j + 1)).length) := by unfold Hid; omega
      clear h2 h4 h5 h6 h7 ht
      go_wp2
      go_round
      case rel => exact ⟨j + 1, s + t, by omega, by go_num, by go_num, hs2, hcat2⟩
      case measure => simp [intOf]; omega
    · obtain rfl : j = k := by omega
      have hs1 : 1 ≤ s := by
        have h1 := hcat.out
        have h2 := catI_mono R (a := 1) (b := j) hk
        have h3 : (catI R 1).length = (R 0).length := by simp [catI]
        obtain ⟨_, h4, h5⟩ := hlen.out 0 (by omega)
        omega
      have HG := Lib.hid (Grow0_c s hs1 (by omega))
      go_wp2_with (go_at_call 59; refine (HG.out _).mono ?_; rintro e w1 ⟨gg, cc, rfl, hown, hb1⟩)
      go_loopw [6, 27] (fun nv i wr => ∃ (i' t : Nat) (v : Value), i' ≤ j ∧ i = .int .i64 i' ∧ nv = v ∧ t ≤ 100000 ∧ wr.ownsRow w.heap.size 3 1 v t (iC (catI R i')) ∧ Hid (t = (catI R i').length) ∧ Below w.heap.size w wr ∧ v ≠ .slice none 0 0) (fun _ i _ => j - (intOf i).toNat)
      case atStart => exact ⟨0, 0, _, by omega, rfl, rfl, by omega, hown, rfl, hb1, by simp⟩
      case round =>
        clear hown hb1
        obtain ⟨i', t, v, hi', rfl, rfl, ht, hown, hcat2, hbel, hnn⟩ := hrel
        obtain ⟨A', c', rfl, hcc⟩ := own_shape hown
        obtain ⟨g', rfl⟩ : ∃ g', A' = some ⟨g', 0, none⟩ := by
          rcases hown.2 with ⟨hv, _⟩ | ⟨g', cap, cur, hv, _⟩
          · exact absurd hv hnn
          · injection hv with hv
            exact ⟨g', hv⟩
        by_cases hlt2 : i' < j
        · have hij : (i' : Int) < (j : Int) := by omega
          have q1 := (hbel.cell (p := ⟨g, i', none⟩) hg).trans (HC.out i' hlt2)
          have hrow := (HR.out i' hlt2).1.below hbel
          obtain ⟨h1, h2, h3⟩ := hlen.out i' hlt2
          have h4 := catI_len R i'
          have h5 := catI_mono R (a := i' + 1) (b := j) (by omega)
          have h6 := HN.out
          have h7 := hcat2.out
          have hcells : Hid (∀ ad, RA i' = some ad → ∀ j u, (iC (R i'))[j]? = some u → wr.cell? (ad.add j) = some u) := fun ad e => (by rw [e] at hrow; exact hrow.cellsOf)
          obtain ⟨ad, had⟩ : ∃ ad, RA i' = some ad := by
            obtain ⟨b, o, e, _⟩ := hrow.cells h3
            exact ⟨_, e⟩
          have HCL := Lib.hid (hcells.out ad had)
          rw [had] at q1
          obtain ⟨m, hm⟩ : ∃ m, m = RL i' := ⟨_, rfl⟩
          rw [← hm] at q1 h1 h2 h3
          have ht2 : t + m ≤ 100000 := by omega
          have hcat3 : Hid (t + m = (catI R (i' + 1)).length) := by unfold Hid; omega
          have hrl : Hid ((R i').length = m) := h2
          have hh := hbel.size
          have HOWN := Lib.hid hown
          have HBEL := Lib.hid hbel
          clear hcells had hrow h2 h4 h5 h6 h7 hm hown hbel
          go_wp2_with (at_builtin; refine wpList_append_own _ rfl _ _ 35 rfl w.heap.size 3 i0 (.int .i64 0) 1 8 Tryd.underlying35 hi hz0 hz1 hz2 rfl (by decide) _ _ _ rfl HOWN.out ad m (RC i') (iC (R i')) rfl (by rw [iC_length, hrl.out, Nat.mul_one]) HCL.out (iC_one _) (by unfold maxLen; omega) (by omega) hh ?_; intro v' w2 hown2 hgrow2 hnil2)
          have hOn : Hid (w2.ownsRow w.heap.size 3 1 v' (t + m) (iC (catI R (i' + 1)))) := by
            unfold Hid
            rw [show catI R (i' + 1) = catI R i' ++ R i' from rfl, iC_append]
            exact hown2
          have hBn : Hid (Below w.heap.size w w2) := HBEL.out.grown hgrow2 hh (fun k hk => (HOWN.out.lt k hk).1)
          have hnn2 : Hid (v' ≠ .slice none 0 0) := fun e => by
            have h8 := (hnil2.1 e).1
            cases h8
          clear hown2 hgrow2 hnil2
          go_wp2
          go_roundw
          case rel => exact ⟨i' + 1, t + m, v', by omega, by go_num, rfl, ht2, hOn.out, hcat3, hBn.out, hnn2.out⟩
          case measure => simp [intOf]; omega
        · obtain rfl : i' = j := by omega
          have HO := Lib.hid hown
          have HB := Lib.hid hbel
          clear hown hbel
          go_wp2
          go_ret
          exact ⟨g', c', t, rfl, hcat2, HO.out, HB.out⟩
end Go.Proofs.YtbphbogolffanaaDoor
