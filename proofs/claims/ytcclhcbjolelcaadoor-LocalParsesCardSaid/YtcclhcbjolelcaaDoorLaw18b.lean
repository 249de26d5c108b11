/-
  LAW 18: the document's Parse, of whatever bytes; LocalParses. No conditions (but that the table of months lies as the program's text lays it).
-/
import Derived.Test.YtcclhcbjolelcaaDoorLaw18
import Derived.Test.YtcclhcbjolelcaaDoorLocq
import Derived.Test.YtcclhcbjolelcaaDoorLocr
import Derived.Test.YtcclhcbjolelcaaDoorLocs
namespace Go.Proofs.YtcclhcbjolelcaaDoor
open Go.RowKit
set_option maxRecDepth 100000
set_option linter.unusedVariables false

theorem RParse_c (A : Option Addr) (n c : Nat) (l : List F) (w : World) (h : RowIn w A n c l) (hn : n ≤ 1000000) :
    Calls Tryd.prog 15 #[.slice A n c] w fun e w' => e = .returned (.tuple #[hdV (prV l).1, .int .i64 ((prV l).2.1 : Nat), .int .i64 (prV l).2.2]) ∧ Below w.heap.size w w' := by
  by_cases h1 : (lnV l).2 = 0
  · by_cases hc : c = 30
    · exact RParse_c30 A n c l w h hn h1 hc
    · by_cases hg : atL l 28 2 = 20
      · exact RParse_g A n c l w h hn h1 hc hg
      · exact RParse_s A n c l w h hn h1 hc hg
  · exact RParse_no A n c l w h hn h1
set_option maxHeartbeats 4000000 in
theorem walk_LocalParses (w : World) (ht : TabM w) (A : Option Addr) (n c : Nat) (l : List F) (h : RowIn w A n c l) :
    Calls Tryd.prog 4 #[.slice A n c] w fun e w' => e = .returned (.bool true) ∧ Below w.heap.size w w' := by
  have HT := Lib.hid ht
  have H := Lib.hid h
  have HAL := Lib.hid alive18_c
  by_cases hb : 400 < n
  · have ib : (400 : Int) < (n : Int) := by omega
    clear ht h hb
    go_enter Tryd.func4, Tryd.ntmps4
    go_wp2_with fail
    refine (HAL.out _ HT.out).mono ?_
    rintro e W1 ⟨rfl, hb1⟩
    go_wp2
    go_ret
    exact ⟨rfl, hb1⟩
  · have ib : ¬ (400 : Int) < (n : Int) := by omega
    have HP := Lib.hid (fun W (hW : RowIn W A n c l) hT => Parse_c A n c l W hW (by omega) hT)
    have HR := Lib.hid (fun W (hW : RowIn W A n c l) => RParse_c A n c l W hW (by omega))
    clear ht h hb
    generalize prV l = P at *
    obtain ⟨⟨mm, ⟨y, mo, dd, hh, mi, s⟩, sum, p, z, nm⟩, n9, e9⟩ := P
    unfold hdV hdC at *
    dsimp only at *
    go_enter Tryd.func4, Tryd.ntmps4
    go_wp2_with fail
    refine (HAL.out _ HT.out).mono ?_
    rintro e W1 ⟨rfl, hb1⟩
    have B1 := Lib.hid hb1
    clear hb1
    go_wp2_with fail
    refine (HP.out _ (H.out.below B1.out) (HT.out.below B1.out)).mono ?_
    rintro e W2 ⟨rfl, hb2⟩
    have hba := (Below.refl W2.heap.size W2).alloc (Nat.le_refl _) (.cells #[.int .i64 mm, .int .i64 y, .int .i64 mo, .int .i64 dd, .int .i64 hh, .int .i64 mi, .int .i64 s, .int .u32 sum, .int .u64 p, .int .u64 z, .string (S nm)] 27)
    have B2 := Lib.hid ((B1.out.trans (hb2.mono B1.out.size)).trans (hba.mono (B1.out.trans (hb2.mono B1.out.size)).size))
    have K2 := Lib.hid (Blk.new W2 27 #[.int .i64 mm, .int .i64 y, .int .i64 mo, .int .i64 dd, .int .i64 hh, .int .i64 mi, .int .i64 s, .int .u32 sum, .int .u64 p, .int .u64 z, .string (S nm)])
    clear hb2 hba B1
    go_wp2_with fail
    generalize W2.alloc (.cells #[.int .i64 mm, .int .i64 y, .int .i64 mo, .int .i64 dd, .int .i64 hh, .int .i64 mi, .int .i64 s, .int .u32 sum, .int .u64 p, .int .u64 z, .string (S nm)] 27) = W3 at *
    generalize W2.heap.size = g3 at *
    refine (HR.out _ (H.out.below B2.out)).mono ?_
    rintro e W4 ⟨rfl, hb4⟩
    have hba := (Below.refl W4.heap.size W4).alloc (Nat.le_refl _) (.cells #[.int .i64 mm, .int .i64 y, .int .i64 mo, .int .i64 dd, .int .i64 hh, .int .i64 mi, .int .i64 s, .int .u32 sum, .int .u64 p, .int .u64 z, .string (S nm)] 35)
    have B4 := Lib.hid ((B2.out.trans (hb4.mono B2.out.size)).trans (hba.mono (B2.out.trans (hb4.mono B2.out.size)).size))
    have K4 := Lib.hid ((K2.out.below K2.out.lt hb4).below (K2.out.below K2.out.lt hb4).lt hba)
    have J4 := Lib.hid (Blk.new W4 35 #[.int .i64 mm, .int .i64 y, .int .i64 mo, .int .i64 dd, .int .i64 hh, .int .i64 mi, .int .i64 s, .int .u32 sum, .int .u64 p, .int .u64 z, .string (S nm)])
    clear hb4 hba B2 K2
    obtain ⟨e0, e1, e2, e3, e4, e5, e6, e7, e8, e9, e10⟩ := elv K4.out
    obtain ⟨f0, f1, f2, f3, f4, f5, f6, f7, f8, f9, f10⟩ := elv J4.out
    go_wp2
    go_ret
    exact ⟨rfl, B4.out⟩
end Go.Proofs.YtcclhcbjolelcaaDoor
