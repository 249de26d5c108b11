/-
  THE CONTRACTS OF block's FixedBits; of Dynamic, where a token is wrong. No conditions.
-/
import Derived.Test.YthnbflkoipnakaaGreatDoorBlkm
namespace Go.Proofs.YthnbflkoipnakaaGreatDoor
open Go.RowKit
set_option maxRecDepth 1000000
set_option linter.unusedVariables false

theorem Wr.fresh (w : World) (C : Array Value) (hC : C = #[.slice none 0 0, .int .i64 0]) : Wr (w.alloc (.cells C 48)) w.heap.size none 0 0 0 [] := by
  subst hC
  exact ⟨Blk.new w 48 #[.slice none 0 0, .int .i64 0], World.ownsRow_nil _ _ _ _, rfl, rfl, by omega⟩
theorem Dynamic_wrong (w : World) (p : Nat) (C : Option Addr) (N c : Nat) (T : List Tok) (hT : TRow w C N T) (hN : N ≤ 1000) (hok : okF T < N) (last : Bool) :
    Calls Tryz.prog 20 #[.pointer (some ⟨p, 0, none⟩), .slice C N c, .bool last] w fun e w' => e = .returned (.int .i64 23) ∧ Below w.heap.size w w' := by
  have haw := anyWrong_c C N c T w hT (by omega)
  rw [decide_eq_true hok] at haw
  have HAW := Lib.hid haw
  clear hT haw hok
  go_enter Tryz.func20, Tryz.ntmps20
  go_wp2_with fail
  refine HAW.out.mono ?_
  rintro e w1 ⟨rfl, b1⟩
  go_wp2
  go_ret
  exact ⟨rfl, b1⟩
set_option maxHeartbeats 2000000 in
theorem FixedBits_c (w : World) (htb : Tabs w) (C : Option Addr) (N c : Nat) (T : List Tok) (hT : TRow w C N T) (hN : N ≤ 1000) (hok : okF T = N) :
    Calls Tryz.prog 19 #[.slice C N c] w fun e w' => e = .returned (.int .i64 ((fixB T false).length : Nat)) ∧ Below w.heap.size w w' := by
  have HW0 := Lib.hid (Wr.fresh w #[.slice none 0 0, .int .i64 0] rfl)
  have HB0 : Hid (Below w.heap.size w (w.alloc (.cells #[.slice none 0 0, .int .i64 0] 48))) := (Below.refl _ _).alloc (Nat.le_refl _) _
  have HF := Lib.hid (FixedB_c HW0.out HB0.out (Nat.le_refl _) htb C N c T hT hN hok false (by omega))
  clear htb hT hok
  go_enter Tryz.func19, Tryz.ntmps19
  go_wp2_with fail
  refine HF.out.mono ?_
  rintro e w1 ⟨rfl, A1, len1, cap1, m1, hW, hO⟩
  have HB1 := Lib.hid (HW0.out.keeps hO HB0.out (Nat.le_refl _))
  have hm : m1 = (fixB T false).length := by have := hW.hn.out; rw [List.nil_append] at this; exact this
  have HM := Lib.hid hm
  have HW := Lib.hid hW
  clear hW hO hm HF HW0 HB0
  go_wp2_with fail
  refine (LenB_c HW.out).mono ?_
  rintro e _ ⟨rfl, rfl⟩
  go_wp2
  go_ret
  rw [← HM.out]
  exact ⟨rfl, HB1.out⟩
set_option maxHeartbeats 2000000 in
theorem FixedBits_wrong (w : World) (C : Option Addr) (N c : Nat) (T : List Tok) (hT : TRow w C N T) (hN : N ≤ 1000) (hok : okF T < N) :
    Calls Tryz.prog 19 #[.slice C N c] w fun e w' => e = .returned (.int .i64 0) ∧ Below w.heap.size w w' := by
  have HW0 := Lib.hid (Wr.fresh w #[.slice none 0 0, .int .i64 0] rfl)
  have HB0 : Hid (Below w.heap.size w (w.alloc (.cells #[.slice none 0 0, .int .i64 0] 48))) := (Below.refl _ _).alloc (Nat.le_refl _) _
  have HF := Lib.hid (FixedB_wrong (w.alloc (.cells #[.slice none 0 0, .int .i64 0] 48)) w.heap.size C N c T (hT.below HB0.out) hN hok false)
  clear hT hok
  go_enter Tryz.func19, Tryz.ntmps19
  go_wp2_with fail
  refine HF.out.mono ?_
  rintro e w1 ⟨rfl, hb⟩
  have HW := Lib.hid (HW0.out.below hb)
  have HB1 := Lib.hid (HB0.out.trans (hb.mono HB0.out.size))
  clear hb HF HW0 HB0
  go_wp2_with fail
  refine (LenB_c HW.out).mono ?_
  rintro e _ ⟨rfl, rfl⟩
  go_wp2
  go_ret
  exact ⟨rfl, HB1.out⟩
end Go.Proofs.YthnbflkoipnakaaGreatDoor
