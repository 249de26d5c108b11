/-
  TAILS: lay; Great, Locator, End. No conditions.
-/
import Derived.Test.YthpgeehfmblbhaaTlc
namespace Go.Proofs.Ythpgeehfmblbhaa
open Go.RowKit
set_option maxRecDepth 100000
set_option linter.unusedVariables false

set_option maxHeartbeats 2000000 in
theorem tlayG_c (R : Nat) (hR : R ≤ 100) (C : Array Value) (T : TypeId) (gt : Nat) (X : List F) (M : Nat) (w : World) (hgt : Blk w gt T C)
    (HC : ∀ (w0 W : World) (q base : Nat) (V : Option Addr) (c : Nat), TlSt w0 W gt T C q base V 0 c [] → Calls Try.prog 21 #[.func (.func 31) #[] #[.pointer (some ⟨q, 0, none⟩)], .pointer (some ⟨gt, 0, none⟩)] W fun e w' => e = .returned (.tuple #[]) ∧ ∃ V' c', TlSt w0 w' gt T C q base V' M c' X) :
    Calls Try.prog 20 #[.int .i64 (R : Int), .func (.func 21) #[] #[.pointer (some ⟨gt, 0, none⟩)]] w fun e w' => ∃ A c, e = .returned (.slice A M c) ∧ w'.ownsRow w.heap.size 5 1 (.slice A M c) M (cs X) ∧ Below w.heap.size w w' := by
  obtain ⟨i0, hi, hz0, hz1, hz2⟩ := info_parts info_u8
  have SZ : ∀ w3, w3.ownsRow w.heap.size 5 1 (.slice (some ⟨w.heap.size, 0, none⟩) 0 R) 0 [] → w.grownBy w3 none → TlSt w (w3.alloc (.cells #[.slice (some ⟨w.heap.size, 0, none⟩) 0 R] 29)) gt T C w3.heap.size w.heap.size (some ⟨w.heap.size, 0, none⟩) 0 R [] := by
    intro w3 hown3 hg3
    have hb3 : Below w.heap.size w w3 := (Below.refl _ _).grown hg3 (Nat.le_refl _) (fun k h => by cases h)
    have hb4 := (Below.refl w3.heap.size w3).alloc (Nat.le_refl _) (.cells #[.slice (some ⟨w.heap.size, 0, none⟩) 0 R] 29)
    have hs3 := hb3.size
    refine ⟨(hgt.below hgt.lt hb3).below (by have := hgt.lt; omega) hb4, ⟨Blk.new _ _ _, own_below hown3 hb4, fun g hg => ?_, hs3⟩, hgt.lt, by simp; omega, hb3.trans (hb4.mono hs3)⟩
    have := (hown3.lt g hg).2
    omega
  have HSZ := Lib.hid SZ
  have HCC := Lib.hid HC
  clear SZ HC hgt
  go_enter Try.func20, Try.ntmps20
  go_wp2_with (at_make; refine wpList_make_own _ rfl _ _ 29 rfl w.heap.size 5 i0 (.int .u8 0) 1 Try.underlying29 hi hz0 hz1 _ _ _ R rfl rfl rfl (by rw [hz2]; omega) (by unfold maxLen; omega) (Nat.le_refl _) ?_; intro w3 hown3 hg3; have S0 := Lib.hid (HSZ.out w3 hown3 hg3))
  refine (HCC.out _ _ _ _ _ _ S0.out).mono ?_
  rintro e W4 ⟨rfl, V4, c4, s4⟩
  have S4 := Lib.hid s4
  clear s4 S0 hown3 hg3 HSZ HCC
  have x0 := (S4.out.bx.blk.cell 0).trans rfl
  go_wp2
  go_ret
  exact ⟨V4, c4, rfl, S4.out.bx.own, S4.out.bel⟩
set_option maxHeartbeats 2000000 in
theorem tlayL_c (R : Nat) (hR : R ≤ 100) (C : Array Value) (T : TypeId) (gt : Nat) (X : List F) (M : Nat) (w : World) (hgt : Blk w gt T C)
    (HC : ∀ (w0 W : World) (q base : Nat) (V : Option Addr) (c : Nat), TlSt w0 W gt T C q base V 0 c [] → Calls Try.prog 23 #[.func (.func 31) #[] #[.pointer (some ⟨q, 0, none⟩)], .pointer (some ⟨gt, 0, none⟩)] W fun e w' => e = .returned (.tuple #[]) ∧ ∃ V' c', TlSt w0 w' gt T C q base V' M c' X) :
    Calls Try.prog 20 #[.int .i64 (R : Int), .func (.func 23) #[] #[.pointer (some ⟨gt, 0, none⟩)]] w fun e w' => ∃ A c, e = .returned (.slice A M c) ∧ w'.ownsRow w.heap.size 5 1 (.slice A M c) M (cs X) ∧ Below w.heap.size w w' := by
  obtain ⟨i0, hi, hz0, hz1, hz2⟩ := info_parts info_u8
  have SZ : ∀ w3, w3.ownsRow w.heap.size 5 1 (.slice (some ⟨w.heap.size, 0, none⟩) 0 R) 0 [] → w.grownBy w3 none → TlSt w (w3.alloc (.cells #[.slice (some ⟨w.heap.size, 0, none⟩) 0 R] 29)) gt T C w3.heap.size w.heap.size (some ⟨w.heap.size, 0, none⟩) 0 R [] := by
    intro w3 hown3 hg3
    have hb3 : Below w.heap.size w w3 := (Below.refl _ _).grown hg3 (Nat.le_refl _) (fun k h => by cases h)
    have hb4 := (Below.refl w3.heap.size w3).alloc (Nat.le_refl _) (.cells #[.slice (some ⟨w.heap.size, 0, none⟩) 0 R] 29)
    have hs3 := hb3.size
    refine ⟨(hgt.below hgt.lt hb3).below (by have := hgt.lt; omega) hb4, ⟨Blk.new _ _ _, own_below hown3 hb4, fun g hg => ?_, hs3⟩, hgt.lt, by simp; omega, hb3.trans (hb4.mono hs3)⟩
    have := (hown3.lt g hg).2
    omega
  have HSZ := Lib.hid SZ
  have HCC := Lib.hid HC
  clear SZ HC hgt
  go_enter Try.func20, Try.ntmps20
  go_wp2_with (at_make; refine wpList_make_own _ rfl _ _ 29 rfl w.heap.size 5 i0 (.int .u8 0) 1 Try.underlying29 hi hz0 hz1 _ _ _ R rfl rfl rfl (by rw [hz2]; omega) (by unfold maxLen; omega) (Nat.le_refl _) ?_; intro w3 hown3 hg3; have S0 := Lib.hid (HSZ.out w3 hown3 hg3))
  refine (HCC.out _ _ _ _ _ _ S0.out).mono ?_
  rintro e W4 ⟨rfl, V4, c4, s4⟩
  have S4 := Lib.hid s4
  clear s4 S0 hown3 hg3 HSZ HCC
  have x0 := (S4.out.bx.blk.cell 0).trans rfl
  go_wp2
  go_ret
  exact ⟨V4, c4, rfl, S4.out.bx.own, S4.out.bel⟩
set_option maxHeartbeats 2000000 in
theorem tlayE_c (R : Nat) (hR : R ≤ 100) (C : Array Value) (T : TypeId) (gt : Nat) (X : List F) (M : Nat) (w : World) (hgt : Blk w gt T C)
    (HC : ∀ (w0 W : World) (q base : Nat) (V : Option Addr) (c : Nat), TlSt w0 W gt T C q base V 0 c [] → Calls Try.prog 24 #[.func (.func 31) #[] #[.pointer (some ⟨q, 0, none⟩)], .pointer (some ⟨gt, 0, none⟩)] W fun e w' => e = .returned (.tuple #[]) ∧ ∃ V' c', TlSt w0 w' gt T C q base V' M c' X) :
    Calls Try.prog 20 #[.int .i64 (R : Int), .func (.func 24) #[] #[.pointer (some ⟨gt, 0, none⟩)]] w fun e w' => ∃ A c, e = .returned (.slice A M c) ∧ w'.ownsRow w.heap.size 5 1 (.slice A M c) M (cs X) ∧ Below w.heap.size w w' := by
  obtain ⟨i0, hi, hz0, hz1, hz2⟩ := info_parts info_u8
  have SZ : ∀ w3, w3.ownsRow w.heap.size 5 1 (.slice (some ⟨w.heap.size, 0, none⟩) 0 R) 0 [] → w.grownBy w3 none → TlSt w (w3.alloc (.cells #[.slice (some ⟨w.heap.size, 0, none⟩) 0 R] 29)) gt T C w3.heap.size w.heap.size (some ⟨w.heap.size, 0, none⟩) 0 R [] := by
    intro w3 hown3 hg3
    have hb3 : Below w.heap.size w w3 := (Below.refl _ _).grown hg3 (Nat.le_refl _) (fun k h => by cases h)
    have hb4 := (Below.refl w3.heap.size w3).alloc (Nat.le_refl _) (.cells #[.slice (some ⟨w.heap.size, 0, none⟩) 0 R] 29)
    have hs3 := hb3.size
    refine ⟨(hgt.below hgt.lt hb3).below (by have := hgt.lt; omega) hb4, ⟨Blk.new _ _ _, own_below hown3 hb4, fun g hg => ?_, hs3⟩, hgt.lt, by simp; omega, hb3.trans (hb4.mono hs3)⟩
    have := (hown3.lt g hg).2
    omega
  have HSZ := Lib.hid SZ
  have HCC := Lib.hid HC
  clear SZ HC hgt
  go_enter Try.func20, Try.ntmps20
  go_wp2_with (at_make; refine wpList_make_own _ rfl _ _ 29 rfl w.heap.size 5 i0 (.int .u8 0) 1 Try.underlying29 hi hz0 hz1 _ _ _ R rfl rfl rfl (by rw [hz2]; omega) (by unfold maxLen; omega) (Nat.le_refl _) ?_; intro w3 hown3 hg3; have S0 := Lib.hid (HSZ.out w3 hown3 hg3))
  refine (HCC.out _ _ _ _ _ _ S0.out).mono ?_
  rintro e W4 ⟨rfl, V4, c4, s4⟩
  have S4 := Lib.hid s4
  clear s4 S0 hown3 hg3 HSZ HCC
  have x0 := (S4.out.bx.blk.cell 0).trans rfl
  go_wp2
  go_ret
  exact ⟨V4, c4, rfl, S4.out.bx.own, S4.out.bel⟩
theorem Great_c (t : Tl) (ht : TlW t) (w : World) :
    Calls Try.prog 10 #[tlV t] w fun e w' => ∃ A c, e = .returned (.slice A 56 c) ∧ w'.ownsRow w.heap.size 5 1 (.slice A 56 c) 56 (cs (nsB (tlP1 t))) ∧ Below w.heap.size w w' := by
  have HL := Lib.hid (tlayG_c 56 (by omega) (tlC t) 25 w.heap.size (nsB (tlP1 t)) 56 (w.alloc (.cells (tlC t) 25)) (Blk.new _ _ _) (fun w0 W q base V c S => Great1_c t ht w0 W _ q base V c S))
  have HB := Lib.hid ((Below.refl w.heap.size w).alloc (Nat.le_refl _) (.cells (tlC t) 25))
  clear ht
  generalize nsB (tlP1 t) = X at *
  unfold tlV tlC at *
  go_enter Try.func10, Try.ntmps10
  go_wp2_with fail
  refine HL.out.mono ?_
  rintro e W2 ⟨A, c, rfl, hown, hb2⟩
  go_wp2
  go_ret
  exact ⟨A, c, rfl, own_base2 hown (by simp), HB.out.trans (hb2.mono (by simp))⟩
theorem Locator_c (t : Tl) (ht : TlW t) (w : World) :
    Calls Try.prog 12 #[tlV t] w fun e w' => ∃ A c, e = .returned (.slice A 20 c) ∧ w'.ownsRow w.heap.size 5 1 (.slice A 20 c) 20 (cs (nsB (tlP2 t))) ∧ Below w.heap.size w w' := by
  have HL := Lib.hid (tlayL_c 20 (by omega) (tlC t) 25 w.heap.size (nsB (tlP2 t)) 20 (w.alloc (.cells (tlC t) 25)) (Blk.new _ _ _) (fun w0 W q base V c S => Loc1_c t ht w0 W _ q base V c S))
  have HB := Lib.hid ((Below.refl w.heap.size w).alloc (Nat.le_refl _) (.cells (tlC t) 25))
  clear ht
  generalize nsB (tlP2 t) = X at *
  unfold tlV tlC at *
  go_enter Try.func12, Try.ntmps12
  go_wp2_with fail
  refine HL.out.mono ?_
  rintro e W2 ⟨A, c, rfl, hown, hb2⟩
  go_wp2
  go_ret
  exact ⟨A, c, rfl, own_base2 hown (by simp), HB.out.trans (hb2.mono (by simp))⟩
theorem End_c (t : Tl) (ht : TlW t) (w : World) :
    Calls Try.prog 14 #[tlV t] w fun e w' => ∃ A c, e = .returned (.slice A 22 c) ∧ w'.ownsRow w.heap.size 5 1 (.slice A 22 c) 22 (cs (nsB (tlP3 t))) ∧ Below w.heap.size w w' := by
  have HL := Lib.hid (tlayE_c 22 (by omega) (tlC t) 25 w.heap.size (nsB (tlP3 t)) 22 (w.alloc (.cells (tlC t) 25)) (Blk.new _ _ _) (fun w0 W q base V c S => End1_c t ht w0 W _ q base V c S))
  have HB := Lib.hid ((Below.refl w.heap.size w).alloc (Nat.le_refl _) (.cells (tlC t) 25))
  clear ht
  generalize nsB (tlP3 t) = X at *
  unfold tlV tlC at *
  go_enter Try.func14, Try.ntmps14
  go_wp2_with fail
  refine HL.out.mono ?_
  rintro e W2 ⟨A, c, rfl, hown, hb2⟩
  go_wp2
  go_ret
  exact ⟨A, c, rfl, own_base2 hown (by simp), HB.out.trans (hb2.mono (by simp))⟩
end Go.Proofs.Ythpgeehfmblbhaa
