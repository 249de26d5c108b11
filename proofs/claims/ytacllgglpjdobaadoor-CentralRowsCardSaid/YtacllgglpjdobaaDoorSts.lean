/-
  STAMPS: the document's Right. No conditions.
-/
import Derived.Test.YtacllgglpjdobaaDoorStr
namespace Go.Proofs.YtacllgglpjdobaaDoor
open Go.RowKit
set_option maxRecDepth 100000
set_option linter.unusedVariables false

set_option maxHeartbeats 2000000 in
theorem RefRight_c (t : St) (hy : (Lit.int .i64 t.y).wf = true) (w : World) : Calls Tryd.prog 43 #[stV t] w fun e w' => e = .returned (.bool (okSt t)) ∧ Below w.heap.size w w' := by
  obtain ⟨y, mo, d, h, mi, s⟩ := t
  have hs2 := tmod0 s 2
  simp only [Int.cast_ofNat_Int] at hs2
  have hok : okP ⟨y, mo, d, h, mi, s⟩ ↔ 1980 ≤ y ∧ y ≤ 2107 ∧ 1 ≤ d ∧ d ≤ (dysN y mo : Int) ∧ 0 ≤ h ∧ h ≤ 23 ∧ 0 ≤ mi ∧ mi ≤ 59 ∧ 0 ≤ s ∧ s ≤ 58 ∧ s.tmod 2 = 0 := by rw [hs2]; exact Iff.rfl
  have HD := Lib.hid (fun W => RefDays_c y mo hy W)
  unfold stV
  dsimp only
  clear hy hs2
  generalize dysN y mo = N at *
  have HB := Lib.hid ((Below.refl w.heap.size w).alloc (Nat.le_refl _) (.cells #[.int .i64 y, .int .i64 mo, .int .i64 d, .int .i64 h, .int .i64 mi, .int .i64 s] 23))
  by_cases c0 : y < 1980
  · have hv : Hid (okSt ⟨y, mo, d, h, mi, s⟩ = false) := decide_eq_false fun q => by have := hok.1 q; omega
    clear hok
    have d0 : decide (y < 1980) = true := decide_eq_true c0
    go_enter Tryd.func43, Tryd.ntmps43
    go_wp2
    go_quiet ((with_reducible exact quiet_left (HD.out _)))
    go_wp2
    go_ret
    rw [hv.out]
    exact ⟨rfl, below_drewN HB.out _⟩
  have d0 : decide (y < 1980) = false := decide_eq_false c0
  by_cases c1 : 2107 < y
  · have hv : Hid (okSt ⟨y, mo, d, h, mi, s⟩ = false) := decide_eq_false fun q => by have := hok.1 q; omega
    clear hok
    have d1 : decide (2107 < y) = true := decide_eq_true c1
    go_enter Tryd.func43, Tryd.ntmps43
    go_wp2
    go_quiet ((with_reducible exact quiet_left (HD.out _)))
    go_wp2
    go_ret
    rw [hv.out]
    exact ⟨rfl, below_drewN HB.out _⟩
  have d1 : decide (2107 < y) = false := decide_eq_false c1
  by_cases c2 : d < 1
  · have hv : Hid (okSt ⟨y, mo, d, h, mi, s⟩ = false) := decide_eq_false fun q => by have := hok.1 q; omega
    clear hok
    have d2 : decide (d < 1) = true := decide_eq_true c2
    go_enter Tryd.func43, Tryd.ntmps43
    go_wp2
    go_quiet ((with_reducible exact quiet_left (HD.out _)))
    go_wp2
    go_ret
    rw [hv.out]
    exact ⟨rfl, below_drewN HB.out _⟩
  have d2 : decide (d < 1) = false := decide_eq_false c2
  by_cases c3 : (N : Int) < d
  · have hv : Hid (okSt ⟨y, mo, d, h, mi, s⟩ = false) := decide_eq_false fun q => by have := hok.1 q; omega
    clear hok
    have d3 : decide ((N : Int) < d) = true := decide_eq_true c3
    go_enter Tryd.func43, Tryd.ntmps43
    go_wp2
    go_quiet ((with_reducible exact quiet_left (HD.out _)))
    go_wp2
    go_ret
    rw [hv.out]
    exact ⟨rfl, below_drewN HB.out _⟩
  have d3 : decide ((N : Int) < d) = false := decide_eq_false c3
  by_cases c4 : h < 0
  · have hv : Hid (okSt ⟨y, mo, d, h, mi, s⟩ = false) := decide_eq_false fun q => by have := hok.1 q; omega
    have p4 : ¬ 0 ≤ h := by omega
    clear hok
    go_enter Tryd.func43, Tryd.ntmps43
    go_wp2
    go_quiet ((with_reducible exact quiet_left (HD.out _)))
    go_wp2
    go_ret
    rw [hv.out]
    exact ⟨rfl, below_drewN HB.out _⟩
  have p4 : 0 ≤ h := by omega
  by_cases c5 : 23 < h
  · have hv : Hid (okSt ⟨y, mo, d, h, mi, s⟩ = false) := decide_eq_false fun q => by have := hok.1 q; omega
    have p5 : ¬ h ≤ 23 := by omega
    clear hok
    go_enter Tryd.func43, Tryd.ntmps43
    go_wp2
    go_quiet ((with_reducible exact quiet_left (HD.out _)))
    go_wp2
    go_ret
    rw [hv.out]
    exact ⟨rfl, below_drewN HB.out _⟩
  have p5 : h ≤ 23 := by omega
  by_cases c6 : mi < 0
  · have hv : Hid (okSt ⟨y, mo, d, h, mi, s⟩ = false) := decide_eq_false fun q => by have := hok.1 q; omega
    have p6 : ¬ 0 ≤ mi := by omega
    clear hok
    go_enter Tryd.func43, Tryd.ntmps43
    go_wp2
    go_quiet ((with_reducible exact quiet_left (HD.out _)))
    go_wp2
    go_ret
    rw [hv.out]
    exact ⟨rfl, below_drewN HB.out _⟩
  have p6 : 0 ≤ mi := by omega
  by_cases c7 : 59 < mi
  · have hv : Hid (okSt ⟨y, mo, d, h, mi, s⟩ = false) := decide_eq_false fun q => by have := hok.1 q; omega
    have p7 : ¬ mi ≤ 59 := by omega
    clear hok
    go_enter Tryd.func43, Tryd.ntmps43
    go_wp2
    go_quiet ((with_reducible exact quiet_left (HD.out _)))
    go_wp2
    go_ret
    rw [hv.out]
    exact ⟨rfl, below_drewN HB.out _⟩
  have p7 : mi ≤ 59 := by omega
  by_cases c8 : s < 0
  · have hv : Hid (okSt ⟨y, mo, d, h, mi, s⟩ = false) := decide_eq_false fun q => by have := hok.1 q; omega
    have p8 : ¬ 0 ≤ s := by omega
    clear hok
    go_enter Tryd.func43, Tryd.ntmps43
    go_wp2
    go_quiet ((with_reducible exact quiet_left (HD.out _)))
    go_wp2
    go_ret
    rw [hv.out]
    exact ⟨rfl, below_drewN HB.out _⟩
  have p8 : 0 ≤ s := by omega
  by_cases c9 : 58 < s
  · have hv : Hid (okSt ⟨y, mo, d, h, mi, s⟩ = false) := decide_eq_false fun q => by have := hok.1 q; omega
    have p9 : ¬ s ≤ 58 := by omega
    clear hok
    go_enter Tryd.func43, Tryd.ntmps43
    go_wp2
    go_quiet ((with_reducible exact quiet_left (HD.out _)))
    go_wp2
    go_ret
    rw [hv.out]
    exact ⟨rfl, below_drewN HB.out _⟩
  have p9 : s ≤ 58 := by omega
  by_cases c10 : ¬ s.tmod 2 = 0
  · have hv : Hid (okSt ⟨y, mo, d, h, mi, s⟩ = false) := decide_eq_false fun q => by have := hok.1 q; omega
    clear hok
    have b10 : (s % 2 == 0) = false := by rw [beq_eq_false_iff_ne]; intro q; exact c10 ((tmod0 s 2).2 q)
    go_enter Tryd.func43, Tryd.ntmps43
    go_wp2
    go_quiet ((with_reducible exact quiet_left (HD.out _)))
    go_wp2
    go_ret
    rw [hv.out]
    exact ⟨rfl, below_drewN HB.out _⟩
  have hv : Hid (okSt ⟨y, mo, d, h, mi, s⟩ = true) := decide_eq_true (hok.2 (by omega))
  clear hok
  have b10 : (s % 2 == 0) = true := by rw [beq_iff_eq]; exact (tmod0 s 2).1 (by simpa using c10)
  go_enter Tryd.func43, Tryd.ntmps43
  go_wp2
  go_quiet ((with_reducible exact quiet_left (HD.out _)))
  go_wp2
  go_ret
  rw [hv.out]
  exact ⟨rfl, below_drewN HB.out _⟩
end Go.Proofs.YtacllgglpjdobaaDoor
