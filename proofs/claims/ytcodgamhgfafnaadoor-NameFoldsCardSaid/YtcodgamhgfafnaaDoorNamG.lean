/-
  THE CONTRACTS OF strings.Clone, strings.HasPrefix, the document's Same of rows of strings. Strings of at most 1000000 bytes.
-/
import Derived.Test.YtcodgamhgfafnaaDoorNamF
namespace Go.Proofs.YtcodgamhgfafnaaDoor
open Go.RowKit Go.Shelf
set_option maxRecDepth 1000000
set_option linter.unusedVariables false

theorem info_byte16 : (Tryd.prog.info? 5).map (fun i => (i.zero, i.size, i.bytes)) = some (some (.int .u8 0), 1, 1) := by kernel_rfl
set_option maxHeartbeats 2000000 in
theorem CloneL_c (s : ByteArray) (w : World) (hlim : s.size ≤ 1000000) :
    Calls Tryd.prog 27 #[.string s] w fun e w' => e = .returned (.string s) ∧ Below w.heap.size w w' := by
  by_cases h0 : s.size = 0
  · have hs : s = ⟨#[]⟩ := by
      apply ByteArray.ext
      exact Array.eq_empty_of_size_eq_zero h0
    subst hs
    go_enter Tryd.func27, Tryd.ntmps27
    go_wp2
    go_ret
    exact ⟨rfl, Below.refl _ _⟩
  · obtain ⟨i0, hi, hz0, hz1, hz2⟩ := info_parts info_byte16
    have hinfo : (Tryd.prog.info? 5).map (·.size) = some 1 := by rw [hi]; simp [hz1]
    have hco : Tryd.prog.cellsOf 5 = 1 := by simp [Program.cellsOf, hi, hz1]
    obtain ⟨M, hM⟩ : ∃ M, M = madeCells (Value.int .u8 0).cells (((s.size : Nat) : Int).toNat * i0.size) := ⟨_, rfl⟩
    have hMs : M.size = s.size := by rw [hM, size_madeCells, hz1]; simp
    have hmk : ∀ W : World, (Instr.makeSlice 41 (.int .i64 (s.size : Int)) (.int .i64 (s.size : Int))).run Tryd.prog W = .ok (.slice (some ⟨W.heap.size, 0, none⟩) s.size s.size) (W.alloc (.cells M 5)) := fun W => by
      have h := run_make (P := Tryd.prog) W 41 5 i0 (.int .u8 0) Tryd.underlying41 hi hz0 .i64 .i64 (s.size : Int) (s.size : Int) (by omega) (by omega) (by rw [hz2]; omega) (by omega)
      rw [← hM] at h
      simpa using h
    clear hM
    have hcp := Lib.run_copy_row_string (P := Tryd.prog) (w.alloc (.cells M 5)) 41 9 3 5 w.heap.size 0 s.size s.size s M 5 Tryd.underlying41 hinfo (heap_alloc_new w _) (Nat.le_refl _) (by omega)
    obtain ⟨Y, hY⟩ : ∃ Y, Y = (M.toList.take 0 ++ Lib.byteCells s.data.toList ++ M.toList.drop (0 + s.size)).toArray := ⟨_, rfl⟩
    rw [← hY] at hcp
    have hYl : Y.toList = Lib.byteCells s.data.toList := by
      rw [hY, List.toList_toArray, List.take_zero, List.nil_append, List.drop_of_length_le (by rw [Array.length_toList]; omega), List.append_nil]
    have hYs : Y.size = s.size := by rw [← Array.length_toList, hYl, Lib.byteCells_length, ← Lib.size_eq]
    have hgY : ((w.alloc (.cells M 5)).setRow w.heap.size Y).heap[w.heap.size]? = some (.cells Y 5 (0, 0)) := setRow_heap _ _ M _ 5 (0, 0) (heap_alloc_new w _)
    have hne : s.data.toList ≠ [] := fun e => h0 (by rw [Lib.size_eq, e]; rfl)
    have hUS := Lib.run_unsafeString_row (P := Tryd.prog) ((w.alloc (.cells M 5)).setRow w.heap.size Y) 49 3 9 5 Tryd.underlying49 hco w.heap.size Y.size (by unfold World.shape?; rw [hgY]) s.data.toList hne (by rw [← Lib.size_eq]; omega) (by rw [← Lib.size_eq]; omega)
      (fun j x hx => Lib.cells_of_row hgY Y.size j _ (by rw [List.take_of_length_le (by rw [Array.length_toList]; exact Nat.le_refl _), hYl]; simp [Lib.byteCells, hx]))
    rw [← Lib.size_eq] at hUS
    clear hY
    go_enter Tryd.func27, Tryd.ntmps27
    go_wp2
    go_ret
    have hb1 : Below w.heap.size w (w.alloc (.cells M 5)) := (Below.refl _ w).alloc (Nat.le_refl _) _
    have hb2 : Below w.heap.size (w.alloc (.cells M 5)) ((w.alloc (.cells M 5)).setRow w.heap.size Y) := ⟨rfl, rfl, rfl, by simp, fun k hk => setRow_other _ _ _ _ (by omega)⟩
    exact ⟨rfl, Lib.below_freeze (hb1.trans hb2) (p := ⟨w.heap.size, 0, none⟩) (Nat.le_refl _) _⟩
theorem Clone_s (s : ByteArray) (w : World) (hlim : s.size ≤ 1000000) :
    Calls Tryd.prog 24 #[.string s] w fun e w' => e = .returned (.string s) ∧ Below w.heap.size w w' := by
  have HC := Lib.hid (CloneL_c s w hlim)
  go_enter Tryd.func24, Tryd.ntmps24
  go_wp2_with fail
  refine HC.out.mono ?_
  rintro e w2 ⟨rfl, hb⟩
  go_wp2
  go_ret
  exact ⟨rfl, hb⟩
/-- does a row begin with another? -/
def preB (a b : List UInt8) : Bool := decide (b.length ≤ a.length) && (a.take b.length == b)
theorem HasPrefix_c (a b : List UInt8) (w : World) :
    Calls Tryd.prog 25 #[.string (S a), .string (S b)] w fun e w' => e = .returned (.bool (preB a b)) ∧ w = w' := by
  have ha := S_size a
  have hb := S_size b
  by_cases h : b.length ≤ a.length
  · have hx : (S a).extract 0 b.length = S (a.take b.length) := by rw [S_extract _ _ _ h, List.drop_zero]
    have h1 := toList_S2 (a.take b.length)
    have h2 := toList_S2 b
    have hE : Hid (preB a b = (a.take b.length == b)) := by unfold Hid preB; rw [decide_eq_true h, Bool.true_and]
    generalize preB a b = z at *
    generalize S (a.take b.length) = t at *
    generalize S a = sa at *
    generalize S b = sb at *
    generalize b.length = m at *
    generalize a.length = n at *
    generalize a.take m = q at *
    have hle : (m : Int) ≤ (n : Int) := by omega
    have hle2 : m ≤ sa.size := by omega
    cases hq : (q == b) with
    | true =>
      rw [hq] at hE
      go_enter Tryd.func25, Tryd.ntmps25
      go_wp2
      go_ret
      rw [hE.out]
      exact ⟨rfl, rfl⟩
    | false =>
      rw [hq] at hE
      go_enter Tryd.func25, Tryd.ntmps25
      go_wp2
      go_ret
      rw [hE.out]
      exact ⟨rfl, rfl⟩
  · have hE : Hid (preB a b = false) := by unfold Hid preB; rw [decide_eq_false h, Bool.false_and]
    have hle : ¬ ((b.length : Nat) : Int) ≤ ((a.length : Nat) : Int) := by omega
    generalize preB a b = z at *
    generalize S a = sa at *
    generalize S b = sb at *
    go_enter Tryd.func25, Tryd.ntmps25
    go_wp2
    go_ret
    rw [hE.out]
    exact ⟨rfl, rfl⟩
set_option maxHeartbeats 2000000 in
/-- rows of strings held against each other -/
theorem SameS_c (A B : Option Addr) (n m ca cb : Nat) (L M : List (List UInt8)) (w : World) (hA : SRow w A n L) (hB : SRow w B m M) (hn : n ≤ 1000000) :
    Calls Tryd.prog 12 #[.slice A n ca, .slice B m cb] w fun e w' => e = .returned (.bool (decide (L = M))) ∧ Below w.heap.size w w' := by
  have HA := Lib.hid hA
  have HB := Lib.hid hB
  have HLA := Lib.hid hA.len
  have HLB := Lib.hid hB.len
  clear hA hB
  by_cases hnm : n = m
  · have hq : ((n : Int) == (m : Int)) = true := by rw [beq_iff_eq]; omega
    have hq2 : ((n : Int) != (m : Int)) = false := by rw [bne_eq_false_iff_eq]; omega
    obtain ⟨z, hz⟩ : ∃ z, z = decide (L = M) := ⟨_, rfl⟩
    rw [← hz]
    have HZ := Lib.hid hz
    have HNM := Lib.hid hnm
    clear hz hnm
    go_enter Tryd.func12, Tryd.ntmps12
    go_wp2
    go_loopw [5] (fun i wr => ∃ (j q : Nat), i = .int .i64 (j : Int) ∧ j ≤ n ∧ Hid (∀ k, k < j → L.getD k [] = M.getD k []) ∧ Hid (wr = w.drewN q)) (fun i _ => n - (intOf i).toNat)
    case atStart => exact ⟨0, 0, rfl, by omega, fun k hk => by omega, rfl⟩
    case round =>
      obtain ⟨j, q, rfl, hjn, hall, hw⟩ := hrel
      by_cases hlt : j < n
      · have hlti : (j : Int) < (n : Int) := by omega
        have hjm : j < m := by have := HNM.out; omega
        have hjmi : (j : Int) < (m : Int) := by omega
        obtain ⟨b1, o1, rfl, c1⟩ := (HA.out.below (below_drewN (Below.refl w.heap.size w) q)).at_ hlt
        obtain ⟨b2, o2, rfl, c2⟩ := (HB.out.below (below_drewN (Below.refl w.heap.size w) q)).at_ hjm
        rw [← hw.out] at c1 c2
        have t1 := toList_S2 (L.getD j [])
        have t2 := toList_S2 (M.getD j [])
        have HN : Hid (L.getD j [] = M.getD j [] → ∀ k, k < j + 1 → L.getD k [] = M.getD k []) := fun h k hk => by
          rcases Nat.lt_or_ge k j with h3 | h3
          · exact hall.out k h3
          · obtain rfl : k = j := by omega
            exact h
        have HX : Hid (L.getD j [] ≠ M.getD j [] → z = false) := fun h => by
          rw [HZ.out]
          exact decide_eq_false fun e => h (by rw [e])
        generalize L.getD j [] = p at *
        generalize M.getD j [] = r at *
        generalize S p = pv at *
        generalize S r = rv at *
        by_cases hpq : p = r
        · have hnx := Lib.hid (HN.out hpq)
          have hq3 : (p == r) = true := by rw [beq_iff_eq]; exact hpq
          clear hpq HN HX
          go_wp2
          go_region_held3 (fun w' => w'.cell? ⟨b1, o1 + j, none⟩ = some (.string pv) ∧ w'.cell? ⟨b2, o2 + j, none⟩ = some (.string rv)) (go_keep) (fail)
          go_wp2
          go_roundw
          case rel => exact ⟨j + 1, q + 1, by go_num, by omega, hnx, by unfold Hid; rw [hw.out]; rfl⟩
          case measure => simp [intOf]; omega
        · have hzf := Lib.hid (HX.out hpq)
          have hq3 : (p == r) = false := by rw [beq_eq_false_iff_ne]; exact hpq
          clear hpq HN HX
          go_wp2
          go_region_held3 (fun w' => w'.cell? ⟨b1, o1 + j, none⟩ = some (.string pv) ∧ w'.cell? ⟨b2, o2 + j, none⟩ = some (.string rv)) (go_keep) (fail)
          go_wp2
          go_ret
          rw [hzf.out, hw.out]
          exact ⟨rfl, below_drewN (below_drewN (Below.refl _ _) q) 1⟩
      · have hlti : ¬ (j : Int) < (n : Int) := by omega
        have hzt : Hid (z = true) := by
          unfold Hid
          rw [HZ.out]
          apply decide_eq_true
          apply List.ext_getElem (by rw [HLA.out, HLB.out, HNM.out])
          intro k h1 h2
          have := hall.out k (by rw [HLA.out] at h1; omega)
          simpa [List.getD_eq_getElem?_getD, h1, h2] using this
        clear hall
        go_wp2
        go_ret
        rw [hzt.out, hw.out]
        exact ⟨rfl, below_drewN (Below.refl _ _) q⟩
  · have hq : ((n : Int) == (m : Int)) = false := by rw [beq_eq_false_iff_ne]; omega
    have hq2 : ((n : Int) != (m : Int)) = true := by rw [bne_iff_ne]; omega
    have hzf : Hid (decide (L = M) = false) := decide_eq_false fun e => hnm (by rw [← HLA.out, ← HLB.out, e])
    generalize decide (L = M) = z at *
    clear hnm
    go_enter Tryd.func12, Tryd.ntmps12
    go_wp2
    go_ret
    rw [hzf.out]
    exact ⟨rfl, Below.refl _ _⟩
end Go.Proofs.YtcodgamhgfafnaaDoor
