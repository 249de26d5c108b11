/-
  THE LEAVES OF SYMBOLS THAT COME; TWO ROWS OF COINS MERGED. No conditions.
-/
import Derived.Test.YtfnjjeopojdnjaaLenA
namespace Go.Proofs.Ytfnjjeopojdnjaa
open Go.RowKit
set_option maxRecDepth 100000
set_option linter.unusedVariables false

/-- the weights of symbols in a row's order -/
def wtsL (fr l : List Int) : Nat → List Nat
  | 0 => []
  | k + 1 => wtsL fr l k ++ [(gi fr (gi l k).toNat).toNat]
theorem wtsL_length (fr l : List Int) (k : Nat) : (wtsL fr l k).length = k := by
  induction k with
  | zero => rfl
  | succ k ih => simp [wtsL, ih]
theorem wtsL_at (fr l : List Int) {i k : Nat} (h : i < k) : (wtsL fr l k).getD i 0 = (gi fr (gi l i).toNat).toNat := by
  induction k with
  | zero => omega
  | succ k ih =>
    have hl := wtsL_length fr l k
    unfold wtsL
    rw [List.getD_eq_getElem?_getD]
    by_cases hi : i < k
    · rw [List.getElem?_append_left (by omega), ← List.getD_eq_getElem?_getD]
      exact ih hi
    · obtain rfl : i = k := by omega
      rw [List.getElem?_append_right (by omega), hl, Nat.sub_self]
      rfl
def lvs (W : List Nat) : List (Nat × Bool) := W.map (·, true)
def pks (P : List Nat) : List (Nat × Bool) := P.map (·, false)
def wt (W : List Nat) (k : Nat) : Nat := W.getD k 0
theorem lvs_length (W : List Nat) : (lvs W).length = W.length := by simp [lvs]
theorem pks_length (W : List Nat) : (pks W).length = W.length := by simp [pks]
theorem lvs_at (W : List Nat) {k : Nat} (h : k < W.length) : cw (lvs W) k = wt W k ∧ cq (lvs W) k = true := by
  unfold cw cq lvs wt
  simp [List.getD_eq_getElem?_getD, h]
theorem pks_at (W : List Nat) {k : Nat} (h : k < W.length) : cw (pks W) k = wt W k ∧ cq (pks W) k = false := by
  unfold cw cq pks wt
  simp [List.getD_eq_getElem?_getD, h]
theorem CRow.lvs {w : World} {O : Option Addr} {n : Nat} {W : List Nat} (h : CRow w O n (cw (lvs W)) (cq (lvs W))) (hn : n ≤ W.length) : CRow w O n (wt W) (fun _ => true) := ⟨fun h0 => by
  obtain ⟨b, off, e, hl, hc⟩ := h.cells h0
  refine ⟨b, off, e, hl, fun k hk => ?_⟩
  have h1 := hc k hk
  have h2 := lvs_at W (k := k) (by omega)
  rw [h2.1, h2.2] at h1
  exact h1⟩
theorem CRow.pks {w : World} {O : Option Addr} {n : Nat} {W : List Nat} (h : CRow w O n (cw (pks W)) (cq (pks W))) (hn : n ≤ W.length) : CRow w O n (wt W) (fun _ => false) := ⟨fun h0 => by
  obtain ⟨b, off, e, hl, hc⟩ := h.cells h0
  refine ⟨b, off, e, hl, fun k hk => ?_⟩
  have h1 := hc k hk
  have h2 := pks_at W (k := k) (by omega)
  rw [h2.1, h2.2] at h1
  exact h1⟩
set_option maxHeartbeats 2000000 in
theorem leavesOf_c (FA : Option Addr) (n cf : Nat) (fr : List Int) (O : Option Addr) (m co : Nat) (l : List Int) (w : World) (hf : IRow w FA n .i64 fr) (hl : IRow w O m .i64 l) (hm : m ≤ 400) (hin : ∀ i, i < m → 0 ≤ gi l i ∧ gi l i < n) (hpos : ∀ i, i < n → 0 ≤ gi fr i) :
    Calls Try.prog 23 #[.slice FA n cf, .slice O m co] w fun e w' => e = .returned (.slice (some ⟨w.heap.size, 0, none⟩) m m) ∧ w'.ownsRow w.heap.size 51 2 (.slice (some ⟨w.heap.size, 0, none⟩) m m) m (cnC (lvs (wtsL fr l m))) ∧ Below w.heap.size w w' := by
  obtain ⟨i0, hi, hz0, hz1, hz2⟩ := info_parts info_coin
  have HIN := Lib.hid hin
  have HPOS := Lib.hid hpos
  clear hin hpos
  have hn0 := hf.max'
  go_enter Try.func23, Try.ntmps23
  go_wp2_with (at_make; refine wpList_make_full _ rfl _ _ 41 rfl w.heap.size 51 i0 (.agg #[.int .i64 0, .bool false]) 2 Try.underlying41 hi hz0 hz1 _ _ _ _ m rfl rfl rfl rfl (by rw [hz2]; omega) (by unfold maxLen; omega) (Nat.le_refl _) ?_; intro w0 hown0 hgrow0)
  go_wp2
  obtain ⟨L0, hL0⟩ : ∃ L0, L0 = (madeCells (Value.agg #[.int .i64 0, .bool false]).cells (m * 2)).toList := ⟨_, rfl⟩
  rw [← hL0] at hown0
  clear hL0
  go_loopw [13] (fun i wr => ∃ (k : Nat) (L : List Value), k ≤ m ∧ i = .int .i64 k ∧ wr.ownsRow w.heap.size 51 2 (.slice (some ⟨w.heap.size, 0, none⟩) m m) m L ∧
    Hid (∀ j, j < k → L[j * 2]? = some (.int .i64 ((gi fr (gi l j).toNat).toNat : Nat)) ∧ L[j * 2 + 1]? = some (.bool true)) ∧ Below w.heap.size w wr) (fun i _ => m - (intOf i).toNat)
  case atStart => exact ⟨0, L0, by omega, rfl, hown0, fun j hj => by omega, (Below.refl _ _).grown hgrow0 (Nat.le_refl _) (fun k h => by cases h)⟩
  case round =>
    obtain ⟨k, L, hk, rfl, hown, hC, hbel⟩ := hrel
    by_cases hlt : k < m
    · have hkn : (k : Int) < m := by omega
      obtain ⟨b1, o1, rfl, l1, h1⟩ := (hl.below hbel).at_ hlt
      obtain ⟨s, hs⟩ : ∃ s : Nat, gi l k = (s : Int) := ⟨(gi l k).toNat, by have := (HIN.out k hlt).1; omega⟩
      have hsn : s < n := by have := (HIN.out k hlt).2; omega
      obtain ⟨b2, o2, rfl, l2, h2⟩ := (hf.below hbel).at_ hsn
      obtain ⟨x, hx⟩ : ∃ x : Nat, gi fr s = (x : Int) := ⟨(gi fr s).toNat, by have := HPOS.out s hsn; omega⟩
      have hxx : (gi fr (gi l k).toNat).toNat = x := by rw [hs]; simp only [Int.toNat_natCast]; rw [hx]; simp
      rw [hs] at h1
      rw [hx] at h2
      have HX := Lib.hid hxx
      have hsi : (s : Int) < n := by omega
      have hLl : L.length = m * 2 := hown.1
      obtain ⟨v0, hv0⟩ := some_atV (L := L) (j := k * 2) (by omega)
      obtain ⟨v1, hv1⟩ := some_atV (L := L) (j := k * 2 + 1) (by omega)
      have c0 := (hown.cellAt (k * 2) (by omega)).trans hv0
      have c1 := (hown.cellAt (k * 2 + 1) (by omega)).trans hv1
      have f0 := hown.frozenAt (k * 2)
      have f1 := hown.frozenAt (k * 2 + 1)
      have s0 := (hown.stored (k * 2) (.int .i64 (x : Nat))).1
      have s1 := Lib.hid (s0.stored (k * 2 + 1) (.bool true)).1
      have HC2 : Hid (∀ j, j < k + 1 → ((L.set (k * 2) (.int .i64 (x : Nat))).set (k * 2 + 1) (.bool true))[j * 2]? = some (.int .i64 ((gi fr (gi l j).toNat).toNat : Nat)) ∧ ((L.set (k * 2) (.int .i64 (x : Nat))).set (k * 2 + 1) (.bool true))[j * 2 + 1]? = some (.bool true)) := by
        intro j hj
        simp only [List.getElem?_set]
        rcases Nat.lt_or_ge j k with h3 | h3
        · obtain ⟨d0, d1⟩ := hC.out j h3
          simp only [show ¬ (k * 2 + 1 = j * 2) by omega, show ¬ (k * 2 = j * 2) by omega, show ¬ (k * 2 + 1 = j * 2 + 1) by omega, show ¬ (k * 2 = j * 2 + 1) by omega, if_false]
          exact ⟨d0, d1⟩
        · obtain rfl : j = k := by omega
          rw [HX.out]
          simp only [List.length_set, show ¬ (j * 2 + 1 = j * 2) by omega, show ¬ (j * 2 = j * 2 + 1) by omega, if_false, if_true, show j * 2 < L.length by omega, show j * 2 + 1 < L.length by omega]
          exact ⟨trivial, trivial⟩
      have HB3 : Hid (Below w.heap.size w ((wr.setCell ⟨w.heap.size, k * 2, none⟩ (.int .i64 (x : Nat))).setCell ⟨w.heap.size, k * 2 + 1, none⟩ (.bool true))) :=
        Below.setCell (hbel.setCell (Nat.le_refl _) _) (Nat.le_refl _) _
      clear hv0 hv1 s0 hLl hC hs hx hxx
      go_wp2
      go_roundw
      case rel => exact ⟨k + 1, _, by omega, by go_num, s1.out, HC2, HB3.out⟩
      case measure => simp [intOf]; omega
    · obtain rfl : k = m := by omega
      have hkn : ¬ (k : Int) < (k : Int) := by omega
      have hfin : Hid (L = cnC (lvs (wtsL fr l k))) := by
        have hwl := wtsL_length fr l k
        refine cnC_ext (by rw [hown.1, lvs_length, hwl]) fun j hj => ?_
        rw [lvs_length, hwl] at hj
        obtain ⟨e1, e2⟩ := lvs_at (wtsL fr l k) (k := j) (by omega)
        rw [e1, e2]
        unfold wt
        rw [wtsL_at fr l hj]
        exact hC.out j hj
      go_wp2
      go_ret
      rw [hfin.out] at hown
      exact ⟨rfl, hown, hbel⟩
end Go.Proofs.Ytfnjjeopojdnjaa
