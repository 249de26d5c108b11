/-
  STAMPS: the package's own contracts, and the document's. No conditions (but that the table lies as the program's text lays it).
-/
import Derived.Test.YtacllgglpjdobaaDoorStp
namespace Go.Proofs.YtacllgglpjdobaaDoor
open Go.RowKit
set_option maxRecDepth 100000
set_option linter.unusedVariables false

/-- the table of months lies -/
structure TabM (w : World) : Prop where
  size : 0 < w.heap.size
  at_ : ∀ i, i < 12 → w.cell? ⟨0, i, none⟩ = some (.int .i64 (md i : Nat))
theorem TabM.below {w w' : World} (h : TabM w) (hb : Below w.heap.size w w') : TabM w' :=
  ⟨by have := hb.size; have := h.size; omega, fun i hi => (hb.cell (p := ⟨0, i, none⟩) h.size).trans (h.at_ i hi)⟩
theorem TabM.drewN {w : World} (h : TabM w) (q : Nat) : TabM (w.drewN q) := ⟨h.size, h.at_⟩
theorem TabM.alloc {w : World} (h : TabM w) (o : Obj) : TabM (w.alloc o) := h.below ((Below.refl _ _).alloc (Nat.le_refl _) _)

def inB (n a b : Int) : Bool := decide (a ≤ n ∧ n ≤ b)
theorem inB_yes {n a b : Int} (h1 : a ≤ n) (h2 : n ≤ b) : inB n a b = true := decide_eq_true ⟨h1, h2⟩
theorem inB_no {n a b : Int} (h : ¬ (a ≤ n ∧ n ≤ b)) : inB n a b = false := decide_eq_false h
theorem isWithin_c (n a b : Int) (w : World) : Calls Tryd.prog 55 #[.int .i64 n, .int .i64 a, .int .i64 b] w fun e w' => e = .returned (.bool (inB n a b)) ∧ w = w' := by
  by_cases h1 : a ≤ n
  · by_cases h2 : n ≤ b
    · have e : Hid (inB n a b = true) := inB_yes h1 h2
      go_enter Tryd.func55, Tryd.ntmps55
      go_wp2
      go_ret
      rw [e.out]
      exact ⟨rfl, rfl⟩
    · have e : Hid (inB n a b = false) := inB_no fun h => h2 h.2
      go_enter Tryd.func55, Tryd.ntmps55
      go_wp2
      go_ret
      rw [e.out]
      exact ⟨rfl, rfl⟩
  · have e : Hid (inB n a b = false) := inB_no fun h => h1 h.1
    go_enter Tryd.func55, Tryd.ntmps55
    go_wp2
    go_ret
    rw [e.out]
    exact ⟨rfl, rfl⟩
theorem tmod0 (y : Int) (k : Nat) : y.tmod (k : Int) = 0 ↔ y % (k : Int) = 0 :=
  ⟨fun h => Int.emod_eq_zero_of_dvd (Int.dvd_of_tmod_eq_zero h), fun h => Int.tmod_eq_zero_of_dvd (Int.dvd_of_emod_eq_zero h)⟩
theorem isLong_c (y : Int) (hw : (Lit.int .i64 y).wf = true) (w : World) : Calls Tryd.prog 64 #[.int .i64 y] w fun e w' => e = .returned (.bool (longB y)) ∧ w = w' := by
  have hl : Hid (longB y = decide ((y.tmod 4 = 0 ∧ ¬ y.tmod 100 = 0) ∨ y.tmod 400 = 0)) := by
    have e1 := tmod0 y 4
    have e2 := tmod0 y 100
    have e3 := tmod0 y 400
    unfold Hid longB
    rw [decide_eq_decide]
    unfold longP
    simp only [Int.cast_ofNat_Int] at e1 e2 e3
    rw [e1, e2, e3]
  by_cases h4 : y.tmod 4 = 0 <;> by_cases h1 : y.tmod 100 = 0 <;> by_cases h9 : y.tmod 400 = 0
  all_goals
    go_enter Tryd.func64, Tryd.ntmps64
    go_wp2
    go_ret
    rw [hl.out]
    simp [h4, h1, h9]
theorem wfI (k : Nat) (h : k < 9223372036854775808) : (Lit.int .i64 (k : Int)).wf = true := by
  have hmin : IntKind.i64.min = -9223372036854775808 := rfl
  have hmax : IntKind.i64.max = 9223372036854775807 := rfl
  simp only [Lit.wf, Bool.and_eq_true, decide_eq_true_eq]
  omega
set_option maxHeartbeats 1000000 in
theorem Days_c (y m : Int) (hw : (Lit.int .i64 y).wf = true) (w : World) (ht : TabM w) : Calls Tryd.prog 56 #[.int .i64 y, .int .i64 m] w fun e w' => e = .returned (.int .i64 (dysN y m : Nat)) ∧ w = w' := by
  have HI := isWithin_c m 1 12
  have HLg := Lib.hid (fun W => isLong_c y hw W)
  by_cases h : 1 ≤ m ∧ m ≤ 12
  · rw [inB_yes h.1 h.2] at HI
    have HIH := Lib.hid HI
    obtain ⟨k, rfl⟩ : ∃ k : Nat, m = ((k + 1 : Nat) : Int) := ⟨(m - 1).toNat, by omega⟩
    have hk : k < 12 := by omega
    have hc := ht.at_ k hk
    have hm := md_le k
    have hd : dysN y ((k + 1 : Nat) : Int) = if ((k + 1 : Nat) : Int) = 2 ∧ longP y then 29 else md k := by
      unfold dysN
      rw [if_pos h, show (((k + 1 : Nat) : Int) - 1).toNat = k by omega]
    have s1 : ((k + 1 : Nat) : Int) - 1 = (k : Int) := by omega
    clear HI h ht
    by_cases h2 : k = 1
    · subst h2
      by_cases hL : longP y
      · rw [if_pos ⟨rfl, hL⟩] at hd
        have hb : longB y = true := decide_eq_true hL
        rw [hb] at HLg
        have HD := Lib.hid hd
        rw [show md 1 = 28 from rfl] at hc
        clear hd s1 hb hm hL
        go_enter Tryd.func56, Tryd.ntmps56
        go_wp2_with fail
        refine (HIH.out w).mono ?_
        rintro e _ ⟨rfl, rfl⟩
        go_wp2_with fail
        refine (HLg.out w).mono ?_
        rintro e _ ⟨rfl, rfl⟩
        go_wp2
        go_ret
        rw [HD.out]
        exact ⟨rfl, rfl⟩
      · rw [if_neg (fun h => hL h.2)] at hd
        have hb : longB y = false := decide_eq_false hL
        rw [hb] at HLg
        rw [show md 1 = 28 from rfl] at hc hd
        have HD := Lib.hid hd
        clear hd s1 hb hm hL
        go_enter Tryd.func56, Tryd.ntmps56
        go_wp2_with fail
        refine (HIH.out w).mono ?_
        rintro e _ ⟨rfl, rfl⟩
        go_wp2_with fail
        refine (HLg.out w).mono ?_
        rintro e _ ⟨rfl, rfl⟩
        go_wp2
        go_ret
        rw [HD.out]
        exact ⟨rfl, rfl⟩
    · rw [if_neg (fun h => by omega)] at hd
      have h2b : (((k + 1 : Nat) : Int) == 2) = false := by rw [beq_eq_false_iff_ne]; omega
      obtain ⟨m, hm1⟩ : ∃ m, m = k + 1 := ⟨_, rfl⟩
      rw [← hm1] at h2b s1 hd HIH ⊢
      generalize md k = b at *
      have hk12 : (k : Int) < 12 := by omega
      have HD := Lib.hid hd
      clear hd hm1 h2 HLg
      go_enter Tryd.func56, Tryd.ntmps56
      go_wp2_with fail
      refine (HIH.out w).mono ?_
      rintro e _ ⟨rfl, rfl⟩
      go_wp2
      go_ret
      rw [HD.out]
      exact ⟨rfl, rfl⟩
  · rw [inB_no h] at HI
    have HIH := Lib.hid HI
    have hd : Hid (dysN y m = 0) := if_neg h
    clear HI h HLg ht
    go_enter Tryd.func56, Tryd.ntmps56
    go_wp2_with fail
    refine (HIH.out w).mono ?_
    rintro e _ ⟨rfl, rfl⟩
    go_wp2
    go_ret
    rw [hd.out]
    exact ⟨rfl, rfl⟩
end Go.Proofs.YtacllgglpjdobaaDoor
