/-
  THE CONTRACTS OF slices.Repeat (of one number), slices.Concat (of four rows of numbers). No conditions.
-/
import Derived.Test.YtbphbogolffanaaDoorInfC
import Derived.Laws.CopyOwn
import Derived.Deep.RegionLaw
namespace Go.Proofs.YtbphbogolffanaaDoor
open Go.RowKit
set_option maxRecDepth 100000
set_option linter.unusedVariables false

theorem Mul64_c (y : Nat) (hy : y < 4294967296) (w : World) : Calls Tryd.prog 70 #[.int .u64 1, .int .u64 y] w fun e w' => e = .returned (.tuple #[.int .u64 0, .int .u64 y]) ∧ w = w' := by
  have h1 : bits BinOp.and IntKind.u64 (y : Int) 4294967295 = (y : Int) := by
    rw [show (4294967295 : Int) = ((4294967295 : Nat) : Int) from rfl, u64_and_nat _ _ (by omega) (by omega)]
    congr 1
    exact (Nat.and_two_pow_sub_one_eq_mod y 32).trans (Nat.mod_eq_of_lt (by omega))
  have h2 : (y : Int) / 4294967296 = 0 := by omega
  go_enter Tryd.func70, Tryd.ntmps70
  go_wp2
  go_ret2
  have e1 : bits BinOp.and IntKind.u64 1 4294967295 = 1 := by decide
  have e2 : IntKind.u64.wrap (y : Int) = (y : Int) := IntWalk.u64_in _ (by omega)
  have e3 : bits BinOp.and IntKind.u64 0 4294967295 = 0 := by decide
  have e4 : IntKind.u64.wrap 0 = 0 := by decide
  refine ⟨?_, rfl⟩
  simp only [e1, Int.one_mul, e2, h2, e3, e4, Int.zero_ediv, Int.add_zero]
  rfl
theorem MulU_c (y : Nat) (hy : y < 4294967296) (w : World) : Calls Tryd.prog 60 #[.int .u64 1, .int .u64 y] w fun e w' => e = .returned (.tuple #[.int .u64 0, .int .u64 y]) ∧ w = w' := by
  have hm := Mul64_c y hy
  have HM := Lib.hid hm
  clear hm
  go_enter Tryd.func60, Tryd.ntmps60
  go_wp2_with (go_at_call 70; refine (HM.out _).mono ?_; rintro e w' ⟨rfl, rfl⟩)
  go_ret2
  exact ⟨rfl, rfl⟩
/-- a number, n times, and noughts behind, up to k -/
def rpI (v : Int) (n k : Nat) : List Int := List.replicate n v ++ List.replicate (k - n) 0
theorem rpI_length (v : Int) {n k : Nat} (h : n ≤ k) : (rpI v n k).length = k := by simp [rpI]; omega
theorem gi_rpI (v : Int) {n k j : Nat} (h : j < n) : gi (rpI v n k) j = v := by simp [gi, rpI, List.getD, List.getElem?_append, h]
theorem rpI_splice (v : Int) {n m k : Nat} (h : n + m ≤ k) : splice (iC (rpI v n k)) n (iC (List.replicate m v)) = iC (rpI v (n + m) k) := by
  unfold splice rpI iC
  rw [List.map_append, List.map_append, List.map_replicate, List.map_replicate, List.map_replicate, List.map_replicate, List.map_replicate, List.length_replicate,
    List.take_append_of_le_length (by simp), List.take_of_length_le (by simp), List.drop_append, List.drop_of_length_le (by simp), List.nil_append, List.length_replicate, List.drop_replicate,
    show n + m - n = m by omega, show k - n - m = k - (n + m) by omega, ← List.append_assoc, List.replicate_append_replicate]
theorem rep_cells (v : Int) (m : Nat) (w : World) (a : Addr) (h : ∀ j, j < m → w.cell? (a.add j) = some (.int .i64 v)) : ∀ j u, (iC (List.replicate m v))[j]? = some u → w.cell? (a.add j) = some u := by
  intro j u hj
  have hlt : j < m := by
    have := (List.getElem?_eq_some_iff.1 hj).1
    simpa [iC] using this
  rw [h j hlt]
  simpa [iC, hlt] using hj
theorem size_int : (Tryd.prog.info? 3).map (·.size) = some 1 := by kernel_rfl
theorem own_cells {w : World} {base n : Nat} {g cap : Nat} {e : TypeId} {xs : List Value} (h : w.ownsRow base e 1 (.slice (some ⟨g, 0, none⟩) n cap) n xs) (hc : n = cap) : w.heap[g]? = some (.cells xs.toArray e (0, 0)) := by
  rcases h.2 with ⟨hv, _⟩ | ⟨g', cap', cur, hv, _, hg, _, _, hsz, ht⟩
  · cases hv
  · injection hv with hv _ hcap
    injection hv with hv
    injection hv with hv _ _
    subst hv hcap
    rw [hg, ← ht, List.take_of_length_le (by simp; omega)]
theorem cells_own {w : World} {base n g : Nat} {e : TypeId} {xs : List Value} (h : w.heap[g]? = some (.cells xs.toArray e (0, 0))) (hb : base ≤ g) (hl : xs.length = n) (hn : n ≤ maxLen) : w.ownsRow base e 1 (.slice (some ⟨g, 0, none⟩) n n) n xs := by
  refine ⟨by rw [hl, Nat.mul_one], .inr ⟨g, n, xs.toArray, rfl, hb, h, Nat.le_refl _, hn, by simp [hl], by simp [← hl]⟩⟩
theorem made_iC (n : Nat) : (madeCells (Value.int .i64 0).cells (n * 1)).toList = iC (List.replicate n 0) := by
  have e : madeCells (Value.int .i64 0).cells (n * 1) = madeCells #[.int .i64 0] n := by rw [Nat.mul_one]; rfl
  rw [e, toList_madeCells_one]
  simp [iC]
set_option maxHeartbeats 400000 in
theorem Rep_c (v : Int) (k : Nat) (h1 : 1 ≤ k) (hk : k ≤ 1000000) (a : Addr) (ca : Nat) (w : World) (hx : w.cell? a = some (.int .i64 v)) (hsp : a.spot = none) :
    Calls Tryd.prog 46 #[.slice (some a) 1 ca, .int .i64 k] w fun e w' => ∃ g, e = .returned (.slice (some ⟨g, 0, none⟩) k k) ∧ w'.ownsRow w.heap.size 3 1 (.slice (some ⟨g, 0, none⟩) k k) k (iC (List.replicate k v)) ∧ Below w.heap.size w w' := by
  obtain ⟨i0, hi, hz0, hz1, hz2⟩ := info_parts info_int
  have HM := Lib.hid (MulU_c k (by omega))
  have hlt := World.block_lt_of_cell? w _ hx
  have HX := Lib.hid hx
  clear hx
  go_enter Tryd.func46, Tryd.ntmps46
  go_wp2_with fail
  refine (HM.out _).mono ?_
  rintro e w' ⟨rfl, rfl⟩
  go_wp2_with (first
    | (at_make
       refine wpList_make_full _ rfl _ _ 35 rfl w.heap.size 3 i0 (.int .i64 0) 1 Tryd.underlying35 hi hz0 hz1 _ _ _ _ k rfl rfl rfl rfl (by rw [hz2]; omega) (by unfold maxLen; omega) (Nat.le_refl _) ?_
       intro w1 hown1 hgrow1
       have HB1 : Hid (Below w.heap.size w w1) := (Below.refl _ w).grown hgrow1 (Nat.le_refl _) (fun k hk => by cases hk)
       have ho2 := hown1
       rw [made_iC] at ho2
       have HCL := Lib.hid (own_cells ho2 rfl)
       have HX1 : Hid (w1.cell? (a.add 0) = some (.int .i64 v)) := by
         have e : a.add 0 = a := by obtain ⟨b, o, s⟩ := a; subst hsp; simp [Addr.add]
         unfold Hid
         rw [e, HB1.out.cell hlt]
         exact HX.out
       clear hown1 hgrow1 ho2)
    | (refine wpList_copy_splice rfl (.tmp 31) (.tmp 32) 35 35 rfl 3 Tryd.underlying35 size_int (some ⟨w.heap.size, 0, none⟩) (some a) k k 1 ca rfl rfl w.heap.size 0 (iC (List.replicate k 0)) 3 HCL.out (iC (List.replicate 1 v)) (by rw [iC_length, List.length_replicate]; exact (Nat.min_eq_left (by omega)).symm) (fun _ => ⟨rfl, a, rfl, rep_cells v 1 _ a (fun j hj => by obtain rfl : j = 0 := (by omega); exact HX1.out)⟩) (by rw [iC_length, iC_length, List.length_replicate, List.length_replicate]; omega) (iC_one _) w.heap.size w HB1.out (Nat.le_refl _) ?_
       intro w2 hw2 hb2
       rw [iC_length, List.length_replicate]))
  have hcl2 : Hid (w2.heap[w.heap.size]? = some (.cells (iC (rpI v 1 k)).toArray 3 (0, 0))) := by
    have h2 := hw2.out
    have e : iC (List.replicate k 0) = iC (rpI v 0 k) := by simp [rpI]
    rw [e, rpI_splice v (n := 0) (m := 1) (by omega)] at h2
    exact h2
  have HB2 := Lib.hid hb2
  clear hw2 hb2 HCL HX1 HB1
  obtain ⟨g, hg⟩ : ∃ g, g = w.heap.size := ⟨_, rfl⟩
  rw [← hg] at hcl2 ⊢
  have HG := Lib.hid hg
  clear hg
  go_wp2
  go_loopw [8] (fun i wr => ∃ n : Nat, 1 ≤ n ∧ n ≤ k ∧ i = .int .i64 n ∧ Hid (wr.heap[g]? = some (.cells (iC (rpI v n k)).toArray 3 (0, 0))) ∧ Hid (Below w.heap.size w wr)) (fun i _ => k - (intOf i).toNat)
  case atStart => exact ⟨1, by omega, by omega, rfl, hcl2, HB2⟩
  case round =>
    obtain ⟨n, hn1, hnk, rfl, hcl, hbl⟩ := hrel
    by_cases hlt2 : n < k
    · have hnki : (n : Int) < (k : Int) := by omega
      have hkne : ¬ k = n := by omega
      obtain ⟨m, hm⟩ : ∃ m, m = min n (k - n) := ⟨_, rfl⟩
      have hm1 : 1 ≤ m := by omega
      have hmn : n + m ≤ k := by omega
      have hml : m ≤ n := by omega
      have HM2 := Lib.hid hm
      have hsrc : Hid (∀ W : World, W.heap[g]? = some (.cells (iC (rpI v n k)).toArray 3 (0, 0)) → ∀ j, j < m → W.cell? ((⟨g, 0, none⟩ : Addr).add j) = some (.int .i64 v)) := fun W hW j hj => by
        have e : (⟨g, 0, none⟩ : Addr).add j = ⟨g, j, none⟩ := by unfold Addr.add; split <;> simp_all
        rw [e, cell_of_row W g j _ 3 (0, 0) hW, List.getElem?_toArray, iC_at (by rw [rpI_length v hnk]; omega), gi_rpI v (by omega)]
      have hcd : Hid (wr.drew.heap[g]? = some (.cells (iC (rpI v n k)).toArray 3 (0, 0))) := hcl.out
      have hbd : Hid (Below w.heap.size w wr.drew) := hbl.out.drew
      clear hm
      have hwr : IntKind.i64.wrap ((n : Int) + (m : Int)) = ((n + m : Nat) : Int) := (IntWalk.i64_in _ (by omega)).trans (by omega)
      go_wp2
      go_region_law ((refine step_copy_splice (by rfl) (.tmp 41) (.tmp 44) 35 35 (by rfl) 3 Tryd.underlying35 size_int (some ⟨g, n, none⟩) (some ⟨g, 0, none⟩) (k - n) (k - n) n k (by simp [go_sem]) (by simp [go_sem]) g n (iC (rpI v n k)) 3 (by exact hcd.out) (iC (List.replicate m v)) (by rw [iC_length, List.length_replicate]; exact HM2.out) (by exact fun _ => ⟨rfl, _, rfl, rep_cells v m _ _ (hsrc.out _ hcd.out)⟩) (by rw [iC_length, iC_length, rpI_length v hnk, List.length_replicate]; exact hmn) (iC_one _) w.heap.size w (by exact hbd.out) (by rw [HG.out]; exact Nat.le_refl _) ?_; intro w4 hg4 hb4; rw [iC_length, List.length_replicate]))
      have hc2 : Hid (w4.heap[g]? = some (.cells (iC (rpI v (n + m) k)).toArray 3 (0, 0))) := by
        have h2 := hg4.out
        rw [rpI_splice v hmn] at h2
        exact h2
      have HB4 := Lib.hid hb4
      clear hg4 hb4 hbl hcl hcd hbd
      go_simp
      go_roundw
      case rel => exact ⟨_, _, _, _, _, _, _, _, _, _, _, _, _, _, ⟨n + m, by omega, hmn, by go_num, hc2, HB4⟩, rfl⟩
      case measure => simp [intOf]; omega
    · obtain rfl : n = k := by omega
      have HO : Hid (wr.ownsRow w.heap.size 3 1 (.slice (some ⟨g, 0, none⟩) n n) n (iC (List.replicate n v))) := by
        have h2 := hcl.out
        rw [show rpI v n n = List.replicate n v by simp [rpI]] at h2
        exact cells_own h2 (by rw [HG.out]; exact Nat.le_refl _) (by simp [iC]) (by unfold maxLen; omega)
      go_wp2
      go_ret
      exact ⟨g, rfl, HO.out, hbl.out⟩
end Go.Proofs.YtbphbogolffanaaDoor
