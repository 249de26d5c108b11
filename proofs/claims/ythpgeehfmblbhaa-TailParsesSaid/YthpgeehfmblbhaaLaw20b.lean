/-
  LAW 20: TailParses. No conditions.
-/
import Derived.Test.YthpgeehfmblbhaaLaw20
namespace Go.Proofs.Ythpgeehfmblbhaa
open Go.RowKit
set_option maxRecDepth 100000
set_option linter.unusedVariables false

set_option maxHeartbeats 4000000 in
theorem walk_TailParses (w : World) (A : Option Addr) (n c : Nat) (a : List F) (hA : RowIn w A n c a) (B : Option Addr) (m d : Nat) (b : List F) (hB : RowIn w B m d b) (C : Option Addr) (k f : Nat) (z : List F) (hC : RowIn w C k f z) :
    Calls Try.prog 4 #[.slice A n c, .slice B m d, .slice C k f] w fun e w' => e = .returned (.bool true) ∧ Below w.heap.size w w' := by
  have HA := Lib.hid hA
  have HB := Lib.hid hB
  have HC := Lib.hid hC
  by_cases hb : 100 < n ∨ 100 < m ∨ 100 < k
  · clear hA hB hC HA HB HC
    by_cases h1 : 100 < n
    · have i1 : (100 : Int) < (n : Int) := by omega
      go_enter Try.func4, Try.ntmps4
      go_wp2_with fail
      refine (alive20_c _).mono ?_
      rintro e W1 ⟨rfl, hb1⟩
      go_wp2
      go_ret
      exact ⟨rfl, hb1⟩
    · have i1 : ¬ (100 : Int) < (n : Int) := by omega
      by_cases h2 : 100 < m
      · have i2 : (100 : Int) < (m : Int) := by omega
        go_enter Try.func4, Try.ntmps4
        go_wp2_with fail
        refine (alive20_c _).mono ?_
        rintro e W1 ⟨rfl, hb1⟩
        go_wp2
        go_ret
        exact ⟨rfl, hb1⟩
      · have i2 : ¬ (100 : Int) < (m : Int) := by omega
        have i3 : (100 : Int) < (k : Int) := by omega
        go_enter Try.func4, Try.ntmps4
        go_wp2_with fail
        refine (alive20_c _).mono ?_
        rintro e W1 ⟨rfl, hb1⟩
        go_wp2
        go_ret
        exact ⟨rfl, hb1⟩
  · have i1 : ¬ (100 : Int) < (n : Int) := by omega
    have i2 : ¬ (100 : Int) < (m : Int) := by omega
    have i3 : ¬ (100 : Int) < (k : Int) := by omega
    have HP := Lib.hid (fun W (h1 : RowIn W A n c a) (h2 : RowIn W B m d b) (h3 : RowIn W C k f z) => ParseT_c A n c a B m d b C k f z W h1 h2 h3 (by omega) (by omega) (by omega))
    have HR := Lib.hid (fun W (h1 : RowIn W A n c a) (h2 : RowIn W B m d b) (h3 : RowIn W C k f z) => RParseT_c A n c a B m d b C k f z W h1 h2 h3 (by omega) (by omega) (by omega))
    clear hA hB hC hb
    generalize prT a b z = P at *
    obtain ⟨⟨di, st, he, co, sz, o, d6, ds, o6⟩, er⟩ := P
    unfold tlV tlC at *
    dsimp only at *
    go_enter Try.func4, Try.ntmps4
    go_wp2_with fail
    refine (alive20_c _).mono ?_
    rintro e W1 ⟨rfl, hb1⟩
    have B1 := Lib.hid hb1
    clear hb1
    go_wp2_with fail
    refine (HP.out _ (HA.out.below B1.out) (HB.out.below B1.out) (HC.out.below B1.out)).mono ?_
    rintro e W2 ⟨rfl, hb2⟩
    have hba := (Below.refl W2.heap.size W2).alloc (Nat.le_refl _) (.cells #[.int .u32 di, .int .u32 st, .int .u64 he, .int .u64 co, .int .u64 sz, .int .u64 o, .int .u32 d6, .int .u32 ds, .int .u64 o6] 25)
    have B2 := Lib.hid ((B1.out.trans (hb2.mono B1.out.size)).trans (hba.mono (B1.out.trans (hb2.mono B1.out.size)).size))
    have K2 := Lib.hid (Blk.new W2 25 #[.int .u32 di, .int .u32 st, .int .u64 he, .int .u64 co, .int .u64 sz, .int .u64 o, .int .u32 d6, .int .u32 ds, .int .u64 o6])
    clear hb2 hba B1
    go_wp2_with fail
    generalize W2.alloc (.cells #[.int .u32 di, .int .u32 st, .int .u64 he, .int .u64 co, .int .u64 sz, .int .u64 o, .int .u32 d6, .int .u32 ds, .int .u64 o6] 25) = W3 at *
    generalize W2.heap.size = g3 at *
    refine (HR.out _ (HA.out.below B2.out) (HB.out.below B2.out) (HC.out.below B2.out)).mono ?_
    rintro e W4 ⟨rfl, hb4⟩
    have hba := (Below.refl W4.heap.size W4).alloc (Nat.le_refl _) (.cells #[.int .u32 di, .int .u32 st, .int .u64 he, .int .u64 co, .int .u64 sz, .int .u64 o, .int .u32 d6, .int .u32 ds, .int .u64 o6] 27)
    have B4 := Lib.hid ((B2.out.trans (hb4.mono B2.out.size)).trans (hba.mono (B2.out.trans (hb4.mono B2.out.size)).size))
    have K4 := Lib.hid ((K2.out.below K2.out.lt hb4).below (K2.out.below K2.out.lt hb4).lt hba)
    have J4 := Lib.hid (Blk.new W4 27 #[.int .u32 di, .int .u32 st, .int .u64 he, .int .u64 co, .int .u64 sz, .int .u64 o, .int .u32 d6, .int .u32 ds, .int .u64 o6])
    clear hb4 hba B2 K2
    obtain ⟨e0, e1, e2, e3, e4, e5, e6, e7, e8⟩ := elv9 K4.out
    obtain ⟨f0, f1, f2, f3, f4, f5, f6, f7, f8⟩ := elv9 J4.out
    go_wp2
    go_ret
    exact ⟨rfl, B4.out⟩
end Go.Proofs.Ythpgeehfmblbhaa
