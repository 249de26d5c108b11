/-
  LAW 12: the law's own examples, as walks. No conditions (but that the tables lie as the program's text lays them).
-/
import Derived.Test.YtbphbogolffanaaDoorInfM
namespace Go.Proofs.YtbphbogolffanaaDoor
open Go.RowKit
set_option maxRecDepth 100000
set_option linter.unusedVariables false

section
variable {w : World} {B : Option Addr} {k cb : Nat} {l : List F} {m : Int} {M : Nat}
theorem Unpack_ok (ht : Tabs w) (hl : Row w B k l) (hk : k ≤ 100000) (hm : max m 0 = (M : Int)) (hM : M ≤ 1000000) {u : Un} (h : unpF l M = .ok u) :
    Calls Tryd.prog 7 #[.slice B k cb, .int .i64 m] w fun e w' => ∃ (A : Option Addr) (n c : Nat), e = .returned (.tuple #[.slice A n c, .int .i64 (((u.at_ + 7) / 8 : Nat) : Int), .int .i64 0]) ∧ w'.ownsRow w.heap.size 5 1 (.slice A n c) n (cs u.out) ∧ Below w.heap.size w w' :=
  (Unpack_c w ht B k cb l hl hk m M hm hM).mono fun e w' hq => by
    rcases hq with ⟨z, g1, _⟩ | ⟨u2, A, n, c, g1, g2, g3, g4⟩
    · rw [h] at g1; cases g1
    · rw [h] at g1; injection g1 with g1; subst g1; exact ⟨A, n, c, g2, g3, g4⟩
theorem Unpack_no (ht : Tabs w) (hl : Row w B k l) (hk : k ≤ 100000) (hm : max m 0 = (M : Int)) (hM : M ≤ 1000000) {z : Nat} (h : unpF l M = .error z) :
    Calls Tryd.prog 7 #[.slice B k cb, .int .i64 m] w fun e w' => e = .returned (.tuple #[.slice none 0 0, .int .i64 0, .int .i64 z]) ∧ Below w.heap.size w w' :=
  (Unpack_c w ht B k cb l hl hk m M hm hM).mono fun e w' hq => by
    rcases hq with ⟨z2, g1, g2, g3⟩ | ⟨u2, A, n, c, g1, g2, g3, g4⟩
    · rw [h] at g1; injection g1 with g1; subst g1; exact ⟨g2, g3⟩
    · rw [h] at g1; cases g1
theorem All_ok (ht : Tabs w) (hl : Row w B k l) (hk : k ≤ 100000) (hm : max m 0 = (M : Int)) (hM : M ≤ 1000000) {o : List F} (h : allF l M = .ok o) :
    Calls Tryd.prog 10 #[.slice B k cb, .int .i64 m] w fun e w' => ∃ (A : Option Addr) (n c : Nat), e = .returned (.tuple #[.slice A n c, .int .i64 0]) ∧ w'.ownsRow w.heap.size 5 1 (.slice A n c) n (cs o) ∧ Below w.heap.size w w' :=
  (All_c w ht B k cb l hl hk m M hm hM).mono fun e w' hq => by
    rcases hq with ⟨z, g1, _⟩ | ⟨u2, A, n, c, g1, g2, g3, g4⟩
    · rw [h] at g1; cases g1
    · rw [h] at g1; injection g1 with g1; subst g1; exact ⟨A, n, c, g2, g3, g4⟩
theorem All_no (ht : Tabs w) (hl : Row w B k l) (hk : k ≤ 100000) (hm : max m 0 = (M : Int)) (hM : M ≤ 1000000) {z : Nat} (h : allF l M = .error z) :
    Calls Tryd.prog 10 #[.slice B k cb, .int .i64 m] w fun e w' => e = .returned (.tuple #[.slice none 0 0, .int .i64 z]) ∧ Below w.heap.size w w' :=
  (All_c w ht B k cb l hl hk m M hm hM).mono fun e w' hq => by
    rcases hq with ⟨z2, g1, g2, g3⟩ | ⟨u2, A, n, c, g1, g2, g3, g4⟩
    · rw [h] at g1; injection g1 with g1; subst g1; exact ⟨g2, g3⟩
    · rw [h] at g1; cases g1
end
theorem Tabs.alloc {w : World} (h : Tabs w) (o : Obj) : Tabs (w.alloc o) := h.below ((Below.refl _ _).alloc (Nat.le_refl _) _)
set_option maxHeartbeats 4000000 in
theorem alive12_c (w : World) (ht : Tabs w) : Calls Tryd.prog 6 #[] w fun e w' => e = .returned (.bool true) ∧ Below w.heap.size w w' := by
  have e1 : ((strB [ofN 65]).toList == [65]) = true := by decide +kernel
  have HT := Lib.hid ht
  clear ht
  go_enter Tryd.func6, Tryd.ntmps6
  go_wp2_with fail
  refine (Unpack_ok (HT.out.alloc _) (row_lit w exA 7 w.heap.size rfl rfl (by decide) #[.int .u8 1, .int .u8 1, .int .u8 0, .int .u8 254, .int .u8 255, .int .u8 65, .int .u8 9] rfl 5) (by omega) (by decide : max (5 : Int) 0 = ((5 : Nat) : Int)) (by omega) exA_un).mono ?_
  rintro e w1 ⟨A1, n1, c1, rfl, hown1, hb1⟩
  obtain rfl : n1 = 1 := by have := own_len hown1; simpa using this.symm
  have HO1 := Lib.hid hown1
  have HB1 := Lib.hid (belA hb1)
  clear hown1 hb1
  go_wp2_with fail
  refine (Unpack_no ((HT.out.below HB1.out).alloc _) (row_lit w1 [ofN 7] 1 w1.heap.size rfl rfl (by decide) #[.int .u8 7] rfl 5) (by omega) (by decide : max (5 : Int) 0 = ((5 : Nat) : Int)) (by omega) ex7_un).mono ?_
  rintro e w2 ⟨rfl, hb2⟩
  have HO2 := Lib.hid (own_below HO1.out (belA hb2))
  have HB2 := Lib.hid (HB1.out.trans ((belA hb2).mono HB1.out.size))
  clear hb2 HO1 HB1
  go_wp2_with fail
  refine (All_no ((HT.out.below HB2.out).alloc _) (row_lit w2 exA 7 w2.heap.size rfl rfl (by decide) #[.int .u8 1, .int .u8 1, .int .u8 0, .int .u8 254, .int .u8 255, .int .u8 65, .int .u8 9] rfl 5) (by omega) (by decide : max (5 : Int) 0 = ((5 : Nat) : Int)) (by omega) exA_all).mono ?_
  rintro e w3 ⟨rfl, hb3⟩
  have HO3 := Lib.hid (own_below HO2.out (belA hb3))
  have HB3 := Lib.hid (HB2.out.trans ((belA hb3).mono HB2.out.size))
  clear hb3 HO2 HB2
  go_wp2_with fail
  refine (All_no ((HT.out.below HB3.out).alloc _) (row_lit w3 exB 6 w3.heap.size rfl rfl (by decide) #[.int .u8 1, .int .u8 1, .int .u8 0, .int .u8 254, .int .u8 255, .int .u8 65] rfl 5) (by omega) (by decide : max (0 : Int) 0 = ((0 : Nat) : Int)) (by omega) exB_all).mono ?_
  rintro e w4 ⟨rfl, hb4⟩
  have HO4 := Lib.hid (own_below HO3.out (belA hb4))
  have HB4 := Lib.hid (HB3.out.trans ((belA hb4).mono HB3.out.size))
  clear hb4 HO3 HB3
  go_wp2_with fail
  refine (All_ok ((HT.out.below HB4.out).alloc _) (row_lit w4 exC 3 w4.heap.size rfl rfl (by decide) #[.int .u8 115, .int .u8 4, .int .u8 0] rfl 5) (by omega) (by decide : max (9 : Int) 0 = ((9 : Nat) : Int)) (by omega) exC_all).mono ?_
  rintro e w5 ⟨A5, n5, c5, rfl, hown5, hb5⟩
  obtain rfl : n5 = 1 := by have := own_len hown5; simpa using this.symm
  have HB5 := Lib.hid (HB4.out.trans ((belA hb5).mono HB4.out.size))
  have r1 := run_row_string c1 (Row.of_own (own_below HO4.out (belA hb5)))
  have r2 := run_row_string c5 (Row.of_own hown5)
  clear hb5 HO4 HB4 hown5
  go_wp2
  go_ret
  exact ⟨rfl, HB5.out⟩
end Go.Proofs.YtbphbogolffanaaDoor
