/-
  THE CONTRACTS OF slices.Repeat (of one number), slices.Concat (of four rows of numbers). No conditions.
  THE CONTRACT OF slices.Concat of rows of numbers (none empty). No conditions.
  THE CONTRACTS OF inflate's newTable, newCodes, fixedCodes. No conditions.
-/
import Derived.Test.YtldgdofefcehnaaGreatDoorInfA
import Derived.Laws.CopyOwn
import Derived.Deep.RegionLaw
import Derived.Lib.AppendZeros
namespace Go.Proofs.YtldgdofefcehnaaGreatDoor
section
open Go.RowKit
set_option maxRecDepth 100000
set_option linter.unusedVariables false
theorem Mul64_c (y : Nat) (hy : y < 4294967296) (w : World) : Calls Tryz.prog 155 #[.int .u64 1, .int .u64 y] w fun e w' => e = .returned (.tuple #[.int .u64 0, .int .u64 y]) ∧ w = w' := by
 have h1 : bits BinOp.and IntKind.u64 (y : Int) 4294967295 = (y : Int) := by
  rw [show (4294967295 : Int) = ((4294967295 : Nat) : Int) from rfl, u64_and_nat _ _ (by omega) (by omega)]
  congr 1
  exact (Nat.and_two_pow_sub_one_eq_mod y 32).trans (Nat.mod_eq_of_lt (by omega))
 have h2 : (y : Int) / 4294967296 = 0 := by omega
 go_enter Tryz.func155, Tryz.ntmps155
 go_wp2
 go_ret2
 have e1 : bits BinOp.and IntKind.u64 1 4294967295 = 1 := by decide
 have e2 : IntKind.u64.wrap (y : Int) = (y : Int) := IntWalk.u64_in _ (by omega)
 have e3 : bits BinOp.and IntKind.u64 0 4294967295 = 0 := by decide
 have e4 : IntKind.u64.wrap 0 = 0 := by decide
 refine ⟨?_, rfl⟩
 simp only [e1, Int.one_mul, e2, h2, e3, e4, Int.zero_ediv, Int.add_zero]
 rfl
theorem MulU_c (y : Nat) (hy : y < 4294967296) (w : World) : Calls Tryz.prog 115 #[.int .u64 1, .int .u64 y] w fun e w' => e = .returned (.tuple #[.int .u64 0, .int .u64 y]) ∧ w = w' := by
 have hm := Mul64_c y hy
 have HM := Lib.hid hm
 clear hm
 go_enter Tryz.func115, Tryz.ntmps115
 go_wp2_with (go_at_call 155; refine (HM.out _).mono ?_; rintro e w' ⟨rfl, rfl⟩)
 go_ret2
 exact ⟨rfl, rfl⟩
def rpI (v : Int) (n k : Nat) : List Int := List.replicate n v ++ List.replicate (k - n) 0
theorem rpI_length (v : Int) {n k : Nat} (h : n ≤ k) : (rpI v n k).length = k := by simp [rpI]; omega
theorem gi_rpI (v : Int) {n k j : Nat} (h : j < n) : gi (rpI v n k) j = v := by simp [gi, rpI, List.getD, List.getElem?_append, h]
theorem rpI_splice (v : Int) {n m k : Nat} (h : n + m ≤ k) : splice (iC (rpI v n k)) n (iC (List.replicate m v)) = iC (rpI v (n + m) k) := by
 unfold splice rpI iC
 rw [List.map_append, List.map_append, List.map_replicate, List.map_replicate, List.map_replicate, List.map_replicate, List.map_replicate, List.length_replicate,
  List.take_append_of_le_length (by simp), List.take_of_length_le (by simp), List.drop_append, List.drop_of_length_le (by simp), List.nil_append, List.length_replicate, List.drop_replicate,
  show n + m - n = m by omega, show k - n - m = k - (n + m) by omega, ← List.append_assoc, List.replicate_append_replicate]
theorem rep_cells (v : Int) (m : Nat) (w : World) (a : Addr) (h : ∀ j, j < m → w.cell? (a.add j) = some (.int .i64 v)) : ∀ j u, (iC (List.replicate m v))[j]? = some u → w.cell? (a.add j) = some u := by
 intro j u hj
 have hlt : j < m := by
  have := (List.getElem?_eq_some_iff.1 hj).1
  simpa [iC] using this
 rw [h j hlt]
 simpa [iC, hlt] using hj
theorem size_int : (Tryz.prog.info? 3).map (·.size) = some 1 := by kernel_rfl
theorem own_cells {w : World} {base n : Nat} {g cap : Nat} {e : TypeId} {xs : List Value} (h : w.ownsRow base e 1 (.slice (some ⟨g, 0, none⟩) n cap) n xs) (hc : n = cap) : w.heap[g]? = some (.cells xs.toArray e (0, 0)) := by
 rcases h.2 with ⟨hv, _⟩ | ⟨g', cap', cur, hv, _, hg, _, _, hsz, ht⟩
 ·cases hv
 ·injection hv with hv _ hcap
  injection hv with hv
  injection hv with hv _ _
  subst hv hcap
  rw [hg, ← ht, List.take_of_length_le (by simp; omega)]
theorem cells_own {w : World} {base n g : Nat} {e : TypeId} {xs : List Value} (h : w.heap[g]? = some (.cells xs.toArray e (0, 0))) (hb : base ≤ g) (hl : xs.length = n) (hn : n ≤ maxLen) : w.ownsRow base e 1 (.slice (some ⟨g, 0, none⟩) n n) n xs := by
 refine ⟨by rw [hl, Nat.mul_one], .inr ⟨g, n, xs.toArray, rfl, hb, h, Nat.le_refl _, hn, by simp [hl], by simp [← hl]⟩⟩
theorem made_iC (n : Nat) : (madeCells (Value.int .i64 0).cells (n * 1)).toList = iC (List.replicate n 0) := by
 have e : madeCells (Value.int .i64 0).cells (n * 1) = madeCells #[.int .i64 0] n := by rw [Nat.mul_one]; rfl
 rw [e, toList_madeCells_one]
 simp [iC]
set_option maxHeartbeats 400000 in
theorem Rep_c (v : Int) (k : Nat) (h1 : 1 ≤ k) (hk : k ≤ 1000000) (a : Addr) (ca : Nat) (w : World) (hx : w.cell? a = some (.int .i64 v)) (hsp : a.spot = none) :
  Calls Tryz.prog 67 #[.slice (some a) 1 ca, .int .i64 k] w fun e w' => ∃ g, e = .returned (.slice (some ⟨g, 0, none⟩) k k) ∧ w'.ownsRow w.heap.size 3 1 (.slice (some ⟨g, 0, none⟩) k k) k (iC (List.replicate k v)) ∧ Below w.heap.size w w' := by
 obtain ⟨i0, hi, hz0, hz1, hz2⟩ := info_parts info_int
 have HM := Lib.hid (MulU_c k (by omega))
 have hlt := World.block_lt_of_cell? w _ hx
 have HX := Lib.hid hx
 clear hx
 go_enter Tryz.func67, Tryz.ntmps67
 go_wp2_with fail
 refine (HM.out _).mono ?_
 rintro e w' ⟨rfl, rfl⟩
 go_wp2_with (first
  | (at_make
     refine wpList_make_full _ rfl _ _ 49 rfl w.heap.size 3 i0 (.int .i64 0) 1 Tryz.underlying49 hi hz0 hz1 _ _ _ _ k rfl rfl rfl rfl (by rw [hz2]; omega) (by unfold maxLen; omega) (Nat.le_refl _) ?_
     intro w1 hown1 hgrow1
     have HB1 : Hid (Below w.heap.size w w1) := (Below.refl _ w).grown hgrow1 (Nat.le_refl _) (fun k hk => by cases hk)
     have ho2 := hown1
     rw [made_iC] at ho2
     have HCL := Lib.hid (own_cells ho2 rfl)
     have HX1 : Hid (w1.cell? (a.add 0) = some (.int .i64 v)) := by
      have e : a.add 0 = a := by obtain ⟨b, o, s⟩ := a; subst hsp; simp [Addr.add]
      unfold Hid
      rw [e, HB1.out.cell hlt]
      exact HX.out
     clear hown1 hgrow1 ho2)
  | (refine wpList_copy_splice rfl (.tmp 31) (.tmp 32) 49 49 rfl 3 Tryz.underlying49 size_int (some ⟨w.heap.size, 0, none⟩) (some a) k k 1 ca rfl rfl w.heap.size 0 (iC (List.replicate k 0)) 3 HCL.out (iC (List.replicate 1 v)) (by rw [iC_length, List.length_replicate]; exact (Nat.min_eq_left (by omega)).symm) (fun _ => ⟨rfl, a, rfl, rep_cells v 1 _ a (fun j hj => by obtain rfl : j = 0 := (by omega); exact HX1.out)⟩) (by rw [iC_length, iC_length, List.length_replicate, List.length_replicate]; omega) (iC_one _) w.heap.size w HB1.out (Nat.le_refl _) ?_
     intro w2 hw2 hb2
     rw [iC_length, List.length_replicate]))
 have hcl2 : Hid (w2.heap[w.heap.size]? = some (.cells (iC (rpI v 1 k)).toArray 3 (0, 0))) := by
  have h2 := hw2.out
  have e : iC (List.replicate k 0) = iC (rpI v 0 k) := by simp [rpI]
  rw [e, rpI_splice v (n := 0) (m := 1) (by omega)] at h2
  exact h2
 have HB2 := Lib.hid hb2
 clear hw2 hb2 HCL HX1 HB1
 obtain ⟨g, hg⟩ : ∃ g, g = w.heap.size := ⟨_, rfl⟩
 rw [← hg] at hcl2 ⊢
 have HG := Lib.hid hg
 clear hg
 go_wp2
 go_loopw [8] (fun i wr => ∃ n : Nat, 1 ≤ n ∧ n ≤ k ∧ i = .int .i64 n ∧ Hid (wr.heap[g]? = some (.cells (iC (rpI v n k)).toArray 3 (0, 0))) ∧ Hid (Below w.heap.size w wr)) (fun i _ => k - (intOf i).toNat)
 case atStart => exact ⟨1, by omega, by omega, rfl, hcl2, HB2⟩
 case round =>
  obtain ⟨n, hn1, hnk, rfl, hcl, hbl⟩ := hrel
  by_cases hlt2 : n < k
  ·have hnki : (n : Int) < (k : Int) := by omega
   have hkne : ¬ k = n := by omega
   obtain ⟨m, hm⟩ : ∃ m, m = min n (k - n) := ⟨_, rfl⟩
   have hm1 : 1 ≤ m := by omega
   have hmn : n + m ≤ k := by omega
   have hml : m ≤ n := by omega
   have HM2 := Lib.hid hm
   have hsrc : Hid (∀ W : World, W.heap[g]? = some (.cells (iC (rpI v n k)).toArray 3 (0, 0)) → ∀ j, j < m → W.cell? ((⟨g, 0, none⟩ : Addr).add j) = some (.int .i64 v)) := fun W hW j hj => by
    have e : (⟨g, 0, none⟩ : Addr).add j = ⟨g, j, none⟩ := by unfold Addr.add; split <;> simp_all
    rw [e, cell_of_row W g j _ 3 (0, 0) hW, List.getElem?_toArray, iC_at (by rw [rpI_length v hnk]; omega), gi_rpI v (by omega)]
   have hcd : Hid (wr.drew.heap[g]? = some (.cells (iC (rpI v n k)).toArray 3 (0, 0))) := hcl.out
   have hbd : Hid (Below w.heap.size w wr.drew) := hbl.out.drew
   clear hm
   have hwr : IntKind.i64.wrap ((n : Int) + (m : Int)) = ((n + m : Nat) : Int) := (IntWalk.i64_in _ (by omega)).trans (by omega)
   go_wp2
   go_region_law ((refine step_copy_splice (by rfl) (.tmp 41) (.tmp 44) 49 49 (by rfl) 3 Tryz.underlying49 size_int (some ⟨g, n, none⟩) (some ⟨g, 0, none⟩) (k - n) (k - n) n k (by simp [go_sem]) (by simp [go_sem]) g n (iC (rpI v n k)) 3 (by exact hcd.out) (iC (List.replicate m v)) (by rw [iC_length, List.length_replicate]; exact HM2.out) (by exact fun _ => ⟨rfl, _, rfl, rep_cells v m _ _ (hsrc.out _ hcd.out)⟩) (by rw [iC_length, iC_length, rpI_length v hnk, List.length_replicate]; exact hmn) (iC_one _) w.heap.size w (by exact hbd.out) (by rw [HG.out]; exact Nat.le_refl _) ?_; intro w4 hg4 hb4; rw [iC_length, List.length_replicate]))
   have hc2 : Hid (w4.heap[g]? = some (.cells (iC (rpI v (n + m) k)).toArray 3 (0, 0))) := by
    have h2 := hg4.out
    rw [rpI_splice v hmn] at h2
    exact h2
   have HB4 := Lib.hid hb4
   clear hg4 hb4 hbl hcl hcd hbd
   go_simp
   go_roundw
   case rel => exact ⟨_, _, _, _, _, _, _, _, _, _, _, _, _, _, ⟨n + m, by omega, hmn, by go_num, hc2, HB4⟩, rfl⟩
   case measure => simp [intOf]; omega
  ·obtain rfl : n = k := by omega
   have HO : Hid (wr.ownsRow w.heap.size 3 1 (.slice (some ⟨g, 0, none⟩) n n) n (iC (List.replicate n v))) := by
    have h2 := hcl.out
    rw [show rpI v n n = List.replicate n v by simp [rpI]] at h2
    exact cells_own h2 (by rw [HG.out]; exact Nat.le_refl _) (by simp [iC]) (by unfold maxLen; omega)
   go_wp2
   go_ret
   exact ⟨g, rfl, HO.out, hbl.out⟩
end
section
open Go.RowKit
set_option maxRecDepth 100000
set_option linter.unusedVariables false
set_option maxHeartbeats 1000000 in
theorem Grow0_c (n : Nat) (h1 : 1 ≤ n) (hn : n ≤ 1000000) (w : World) :
  Calls Tryz.prog 114 #[.slice none 0 0, .int .i64 n] w fun e w' => ∃ g c, e = .returned (.slice (some ⟨g, 0, none⟩) 0 c) ∧ w'.ownsRow w.heap.size 3 1 (.slice (some ⟨g, 0, none⟩) 0 c) 0 [] ∧ Below w.heap.size w w' := by
 obtain ⟨i0, hi, hz0, hz1, hz2⟩ := info_parts info_int
 have hr : ∀ ty, (Builtin.append_ #[49, 3] ty #[.slice none 0 0, .int .i64 n]).run Tryz.prog w = _ := fun ty => Lib.run_append_nil_zeros w 49 3 ty 3 i0 (.int .i64 0) .i64 .i64 Tryz.underlying49 Tryz.underlying3 hi hz0 n (by omega) (by rw [hz1]; omega) (by omega) (by rw [hz2]; omega)
 have hge := grownCap_ge w n 0 3
 have hle := grownCap_le_maxLen w n 0 3 (by unfold maxLen; omega)
 have hO : Hid ((w.drew.alloc (.cells (Builtin.zeroCells (Value.int .i64 0).cells n ++ Builtin.zeroCells (Value.int .i64 0).cells (grownCap w n 0 3 - n)) 3)).ownsRow w.heap.size 3 1 (.slice (some ⟨w.heap.size, 0, none⟩) 0 (grownCap w n 0 3)) 0 []) := by
  refine ⟨rfl, .inr ⟨w.heap.size, _, _, rfl, Nat.le_refl _, heap_alloc_new w.drew _, Nat.zero_le _, hle, ?_, by simp⟩⟩
  have e1 : (Value.int .i64 0).cells.size = 1 := rfl
  rw [Array.size_append, size_zeroCells, size_zeroCells, e1]
  omega
 have hB : Below w.heap.size w (w.drew.alloc (.cells (Builtin.zeroCells (Value.int .i64 0).cells n ++ Builtin.zeroCells (Value.int .i64 0).cells (grownCap w n 0 3 - n)) 3)) := ((Below.refl _ w).drew).alloc (Nat.le_refl _) _
 have HB := Lib.hid hB
 clear hB
 obtain ⟨G, hG⟩ : ∃ G, G = grownCap w n 0 3 := ⟨_, rfl⟩
 rw [← hG] at hr hO HB hge hle
 unfold maxLen at hle
 have hn1 : ¬ ((n : Int) < 0) := by omega
 clear hG
 go_enter Tryz.func114, Tryz.ntmps114
 go_wp2_with (at_builtin; refine Lib.wpList_append_run _ rfl _ _ _ _ rfl _ _ rfl rfl _ _ (hr _) ?_)
 go_ret
 exact ⟨_, G, rfl, hO.out, HB.out⟩
def catI (R : Nat → List Int) : Nat → List Int
 | 0 => []
 | k + 1 => catI R k ++ R k
theorem catI_len (R : Nat → List Int) (k : Nat) : (catI R (k + 1)).length = (catI R k).length + (R k).length := by
 show (catI R k ++ R k).length = _
 rw [List.length_append]
theorem catI_mono (R : Nat → List Int) {a b : Nat} (h : a ≤ b) : (catI R a).length ≤ (catI R b).length := by
 induction b with
 | zero => obtain rfl : a = 0 := by omega
           exact Nat.le_refl _
 | succ b ih =>
  by_cases e : a = b + 1
  ·subst e; exact Nat.le_refl _
  ·have := ih (by omega)
   have := catI_len R b
   omega
set_option maxHeartbeats 2000000 in
theorem Concat_c (g k ck : Nat) (RA : Nat → Option Addr) (RL RC : Nat → Nat) (R : Nat → List Int) (w : World) (hg : g < w.heap.size) (hk : 1 ≤ k) (hk2 : k ≤ 100)
  (hcell : ∀ i, i < k → w.cell? ⟨g, i, none⟩ = some (.slice (RA i) (RL i) (RC i))) (hR : ∀ i, i < k → IRow w (RA i) (RL i) .i64 (R i) ∧ 0 < RL i) (hN : (catI R k).length ≤ 100000) :
  Calls Tryz.prog 64 #[.slice (some ⟨g, 0, none⟩) k ck] w fun e w' => ∃ g' c' N, e = .returned (.slice (some ⟨g', 0, none⟩) N c') ∧ Hid (N = (catI R k).length) ∧ w'.ownsRow w.heap.size 3 1 (.slice (some ⟨g', 0, none⟩) N c') N (iC (catI R k)) ∧ Below w.heap.size w w' := by
 obtain ⟨i0, hi, hz0, hz1, hz2⟩ := info_parts info_int
 have HC := Lib.hid hcell
 have HR := Lib.hid hR
 have HN := Lib.hid hN
 have hlen : Hid (∀ i, i < k → RL i ≤ 100000 ∧ (R i).length = RL i ∧ 0 < RL i) := fun i hi => by
  have h1 := (hR i hi).1.len
  have h2 := catI_mono R (a := i + 1) (b := k) (by omega)
  have h3 := catI_len R i
  exact ⟨by omega, h1, (hR i hi).2⟩
 clear hcell hR hN
 go_enter Tryz.func64, Tryz.ntmps64
 go_wp2
 go_loop [3, 11] (fun sz i => ∃ j s : Nat, j ≤ k ∧ i = .int .i64 j ∧ sz = .int .i64 s ∧ s ≤ 100000 ∧ Hid (s = (catI R j).length)) (fun _ i => k - (intOf i).toNat)
 case atStart => exact ⟨0, 0, by omega, rfl, rfl, by omega, rfl⟩
 case round =>
  obtain ⟨j, s, hj, rfl, rfl, hs, hcat⟩ := hrel
  by_cases hlt : j < k
  ·have hjk : (j : Int) < (k : Int) := by omega
   have q1 := HC.out j hlt
   obtain ⟨h1, h2, h3⟩ := hlen.out j hlt
   have h4 := catI_len R j
   have h5 := catI_mono R (a := j + 1) (b := k) (by omega)
   have h6 := HN.out
   have h7 := hcat.out
   obtain ⟨t, ht⟩ : ∃ t, t = RL j := ⟨_, rfl⟩
   rw [← ht] at q1 h1 h2 h3
   have hs2 : s + t ≤ 100000 := by omega
   have hcat2 : Hid (s + t = (catI R (j + 1)).length) := by unfold Hid; omega
   clear h2 h4 h5 h6 h7 ht
   go_wp2
   go_round
   case rel => exact ⟨j + 1, s + t, by omega, by go_num, by go_num, hs2, hcat2⟩
   case measure => simp [intOf]; omega
  ·obtain rfl : j = k := by omega
   have hs1 : 1 ≤ s := by
    have h1 := hcat.out
    have h2 := catI_mono R (a := 1) (b := j) hk
    have h3 : (catI R 1).length = (R 0).length := by simp [catI]
    obtain ⟨_, h4, h5⟩ := hlen.out 0 (by omega)
    omega
   have HG := Lib.hid (Grow0_c s hs1 (by omega))
   go_wp2_with (go_at_call 114; refine (HG.out _).mono ?_; rintro e w1 ⟨gg, cc, rfl, hown, hb1⟩)
   go_loopw [6, 27] (fun nv i wr => ∃ (i' t : Nat) (v : Value), i' ≤ j ∧ i = .int .i64 i' ∧ nv = v ∧ t ≤ 100000 ∧ wr.ownsRow w.heap.size 3 1 v t (iC (catI R i')) ∧ Hid (t = (catI R i').length) ∧ Below w.heap.size w wr ∧ v ≠ .slice none 0 0) (fun _ i _ => j - (intOf i).toNat)
   case atStart => exact ⟨0, 0, _, by omega, rfl, rfl, by omega, hown, rfl, hb1, by simp⟩
   case round =>
    clear hown hb1
    obtain ⟨i', t, v, hi', rfl, rfl, ht, hown, hcat2, hbel, hnn⟩ := hrel
    obtain ⟨A', c', rfl, hcc⟩ := own_shape hown
    obtain ⟨g', rfl⟩ : ∃ g', A' = some ⟨g', 0, none⟩ := by
     rcases hown.2 with ⟨hv, _⟩ | ⟨g', cap, cur, hv, _⟩
     ·exact absurd hv hnn
     ·injection hv with hv
      exact ⟨g', hv⟩
    by_cases hlt2 : i' < j
    ·have hij : (i' : Int) < (j : Int) := by omega
     have q1 := (hbel.cell (p := ⟨g, i', none⟩) hg).trans (HC.out i' hlt2)
     have hrow := (HR.out i' hlt2).1.below hbel
     obtain ⟨h1, h2, h3⟩ := hlen.out i' hlt2
     have h4 := catI_len R i'
     have h5 := catI_mono R (a := i' + 1) (b := j) (by omega)
     have h6 := HN.out
     have h7 := hcat2.out
     have hcells : Hid (∀ ad, RA i' = some ad → ∀ j u, (iC (R i'))[j]? = some u → wr.cell? (ad.add j) = some u) := fun ad e => (by rw [e] at hrow; exact hrow.cellsOf)
     obtain ⟨ad, had⟩ : ∃ ad, RA i' = some ad := by
      obtain ⟨b, o, e, _⟩ := hrow.cells h3
      exact ⟨_, e⟩
     have HCL := Lib.hid (hcells.out ad had)
     rw [had] at q1
     obtain ⟨m, hm⟩ : ∃ m, m = RL i' := ⟨_, rfl⟩
     rw [← hm] at q1 h1 h2 h3
     have ht2 : t + m ≤ 100000 := by omega
     have hcat3 : Hid (t + m = (catI R (i' + 1)).length) := by unfold Hid; omega
     have hrl : Hid ((R i').length = m) := h2
     have hh := hbel.size
     have HOWN := Lib.hid hown
     have HBEL := Lib.hid hbel
     clear hcells had hrow h2 h4 h5 h6 h7 hm hown hbel
     go_wp2_with (at_builtin; refine wpList_append_own _ rfl _ _ 49 rfl w.heap.size 3 i0 (.int .i64 0) 1 8 Tryz.underlying49 hi hz0 hz1 hz2 rfl (by decide) _ _ _ rfl HOWN.out ad m (RC i') (iC (R i')) rfl (by rw [iC_length, hrl.out, Nat.mul_one]) HCL.out (iC_one _) (by unfold maxLen; omega) (by omega) hh ?_; intro v' w2 hown2 hgrow2 hnil2)
     have hOn : Hid (w2.ownsRow w.heap.size 3 1 v' (t + m) (iC (catI R (i' + 1)))) := by
      unfold Hid
      rw [show catI R (i' + 1) = catI R i' ++ R i' from rfl, iC_append]
      exact hown2
     have hBn : Hid (Below w.heap.size w w2) := HBEL.out.grown hgrow2 hh (fun k hk => (HOWN.out.lt k hk).1)
     have hnn2 : Hid (v' ≠ .slice none 0 0) := fun e => by
      have h8 := (hnil2.1 e).1
      cases h8
     clear hown2 hgrow2 hnil2
     go_wp2
     go_roundw
     case rel => exact ⟨i' + 1, t + m, v', by omega, by go_num, rfl, ht2, hOn.out, hcat3, hBn.out, hnn2.out⟩
     case measure => simp [intOf]; omega
    ·obtain rfl : i' = j := by omega
     have HO := Lib.hid hown
     have HB := Lib.hid hbel
     clear hown hbel
     go_wp2
     go_ret
     exact ⟨g', c', t, rfl, hcat2, HO.out, HB.out⟩
end
section
open Go.RowKit
set_option maxRecDepth 100000
set_option linter.unusedVariables false
set_option maxHeartbeats 400000 in
theorem newTable_c (A : Option Addr) (n c : Nat) (l : List Int) (w : World) (h : IRow w A n .i64 l) :
  Calls Tryz.prog 173 #[.slice A n c] w fun e w' =>
   (errC l n ≠ 0 ∧ e = .panicked [{ v := .iface 33 (.int .i64 (errC l n)), recovered := false }] ∧ Below w.heap.size w w') ∨
   (errC l n = 0 ∧ ∃ q gc LA lc S, e = .returned (.pointer (some ⟨q, 0, none⟩)) ∧ TabIn w' q n l gc LA lc S ∧ TabLo w.heap.size q gc LA S ∧ Below w.heap.size w w') := by
 by_cases he : errC l n = 0
 ·have HN := Lib.hid (New_lo A n c l w h he)
  have HE := Lib.hid he
  clear h he
  go_enter Tryz.func173, Tryz.ntmps173
  go_wp2_with (go_at_call 31; refine HN.out.mono ?_; rintro e w' ⟨p, gc, LA, lc, S, rfl, h1, h2, h3⟩)
  go_ret
  exact .inr ⟨HE.out, p, gc, LA, lc, S, rfl, h1, h2, h3⟩
 ·have HN := Lib.hid (New_no A n c l w h he)
  have HE := Lib.hid he
  have hne : (((errC l n : Nat) : Int) != 0) = true := by rw [bne_iff_ne]; omega
  obtain ⟨x, hx⟩ : ∃ x, x = errC l n := ⟨_, rfl⟩
  rw [← hx] at HN HE hne ⊢
  clear h he hx
  go_enter Tryz.func173, Tryz.ntmps173
  go_wp2_with (go_at_call 31; refine HN.out.mono ?_; rintro e w' ⟨rfl, h3⟩)
  exact ⟨rfl, .inl ⟨HE.out, rfl, h3⟩⟩
theorem TabLo.far {B y q gc n : Nat} {LA : Option Addr} {S : Nat → Value} (h : TabLo B q gc LA S) (hy : y < B) : FarT y q n gc LA S :=
 ⟨by have := h.tab; omega, fun _ => by have := h.cod; omega, fun _ b o e => by have := h.len b o e; omega, fun j hj e => by have := h.row j hj y e; omega⟩
theorem TabLo.mono {B B' q gc : Nat} {LA : Option Addr} {S : Nat → Value} (h : TabLo B q gc LA S) (hb : B' ≤ B) : TabLo B' q gc LA S :=
 ⟨by have := h.tab; omega, by have := h.cod; omega, fun b o e => by have := h.len b o e; omega, fun j hj g e => by have := h.row j hj g e; omega⟩
set_option maxHeartbeats 1000000 in
theorem newCodes_c {p r : Nat} {a : Option Nat} (A D : Option Addr) (n m c d : Nat) (ls ds : List Int) (w : World) (hl : IRow w A n .i64 ls) (hd : IRow w D m .i64 ds) (hp : p < w.heap.size) (hr : r < w.heap.size) (ha : ∀ g, a = some g → g < w.heap.size) :
  Calls Tryz.prog 149 #[.slice A n c, .slice D m d] w fun e w' =>
   (∃ k, (k = errC ls ls.length ∧ errC ls ls.length ≠ 0 ∨ errC ls ls.length = 0 ∧ k = errC ds ds.length ∧ errC ds ds.length ≠ 0) ∧ e = .panicked [{ v := .iface 33 (.int .i64 k), recovered := false }] ∧ Below w.heap.size w w') ∨
   (errC ls ls.length = 0 ∧ errC ds ds.length = 0 ∧ ∃ q, e = .returned (.pointer (some ⟨q, 0, none⟩)) ∧ Cds w' p r a q ls ds ∧ Below w.heap.size w w') := by
 have h1 := newTable_c A n c ls w hl
 rw [← hl.len] at h1
 have HLN := Lib.hid hl.len
 have HDN := Lib.hid hd.len
 have H1 := Lib.hid h1
 have HD := Lib.hid hd
 rw [HLN.out] at H1
 have HA := Lib.hid ha
 rw [HLN.out, HDN.out]
 clear h1 hl hd ha
 go_enter Tryz.func149, Tryz.ntmps149
 go_wp2_with fail
 refine H1.out.mono ?_
 rintro e w1 (⟨g1, rfl, g2⟩ | ⟨g1, q1, gc, LA, lc, S, rfl, g2, g3, g4⟩)
 ·have HG := Lib.hid g1
  clear g1
  go_wp2
  exact ⟨rfl, .inl ⟨_, .inl ⟨rfl, HG.out⟩, rfl, g2⟩⟩
 ·have H2 := Lib.hid (newTable_c D m d ds w1 (HD.out.below g4))
  have HG := Lib.hid g1
  have HT := Lib.hid (And.intro g2 (And.intro g3 g4))
  clear g1 g2 g3 g4
  go_wp2_with fail
  refine H2.out.mono ?_
  rintro e w2 (⟨g1, rfl, g2⟩ | ⟨g1, q2, gc2, LA2, lc2, S2, rfl, g2, g3, g4⟩)
  ·have HG2 := Lib.hid g1
   have HB := Lib.hid (HT.out.2.2.trans (g2.mono HT.out.2.2.size))
   clear g1 g2
   go_wp2
   exact ⟨rfl, .inl ⟨_, .inr ⟨HG.out, rfl, HG2.out⟩, rfl, HB.out⟩⟩
  ·have HG2 := Lib.hid g1
   have HB := Lib.hid (HT.out.2.2.trans (g4.mono HT.out.2.2.size))
   have HT1 := Lib.hid (HT.out.1.below g4)
   have HL1 := Lib.hid HT.out.2.1
   have HT2 := Lib.hid g2
   have HL2 := Lib.hid (g3.mono HT.out.2.2.size)
   have hs1 := HT.out.2.2.size
   have hs2 := g4.size
   clear g1 g2 g3 g4
   go_wp2
   go_ret
   have hb : Below w2.heap.size w2 (w2.alloc (.cells #[.pointer (some ⟨q1, 0, none⟩), .pointer (some ⟨q2, 0, none⟩)] 191)) := (Below.refl _ _).alloc (Nat.le_refl _) _
   refine .inr ⟨HG.out, HG2.out, w2.heap.size, rfl, ⟨⟨q1, q2, Blk.new _ _ _, ⟨_, _, _, _, _, HT1.out.below hb, HL1.out.far hp, HL1.out.far hr, fun g e => HL1.out.far (HA.out g e)⟩, ⟨_, _, _, _, _, HT2.out.below hb, HL2.out.far hp, HL2.out.far hr, fun g e => HL2.out.far (HA.out g e)⟩⟩, by omega, by omega, fun e => by have := HA.out _ e; omega⟩, ?_⟩
   exact HB.out.alloc HB.out.size _
end
end Go.Proofs.YtldgdofefcehnaaGreatDoor
