/-
  LAW 17: the law's own example. No conditions (but that the table lies as the program's text lays it).
-/
import Derived.Test.YtoodgbognpecjaaDoorStu
namespace Go.Proofs.YtoodgbognpecjaaDoor
open Go.RowKit
set_option maxRecDepth 100000
set_option linter.unusedVariables false

theorem sixS {w : World} {g : Nat} {t : TypeId} {a b c d e f : Value} (h : Blk w g t #[a, b, c, d, e, f]) :
    w.cell? ⟨g, 0, none⟩ = some a ∧ w.cell? ⟨g, 1, none⟩ = some b ∧ w.cell? ⟨g, 2, none⟩ = some c ∧ w.cell? ⟨g, 3, none⟩ = some d ∧ w.cell? ⟨g, 4, none⟩ = some e ∧ w.cell? ⟨g, 5, none⟩ = some f :=
  ⟨by simpa using h.cell 0, by simpa using h.cell 1, by simpa using h.cell 2, by simpa using h.cell 3, by simpa using h.cell 4, by simpa using h.cell 5⟩
def one1 : St := ⟨1980, 1, 1, 0, 0, 0⟩
theorem un_one : unV 33 0 = .tuple #[.agg #[.int .i64 1980, .int .i64 1, .int .i64 1, .int .i64 0, .int .i64 0, .int .i64 0], .int .i64 0] := by
  unfold unV
  rw [if_pos (by decide)]
  rfl
theorem un_zero : unV 0 0 = .tuple #[.agg #[.int .i64 0, .int .i64 0, .int .i64 0, .int .i64 0, .int .i64 0, .int .i64 0], .int .i64 41] := by
  unfold unV
  rw [if_neg (by decide)]
  rfl
set_option maxHeartbeats 4000000 in
theorem alive17_c (w : World) (ht : TabM w) : Calls Tryd.prog 7 #[] w fun e w' => e = .returned (.bool true) ∧ Below w.heap.size w w' := by
  have hP := fun W hW => Pack_yes one1 (by decide) (by rfl) W hW
  rw [show datN one1 = 33 from rfl, show timN one1 = 0 from rfl] at hP
  have hU1 := fun W hW => Unpack_c 33 0 (by omega) (by omega) W hW
  rw [un_one] at hU1
  have hU2 := fun W hW => Unpack_c 0 0 (by omega) (by omega) W hW
  rw [un_zero] at hU2
  have hD1 := fun W hW => Days_c 2000 2 (by rfl) W hW
  rw [show dysN 2000 2 = 29 from rfl] at hD1
  have hD2 := fun W hW => Days_c 2100 2 (by rfl) W hW
  rw [show dysN 2100 2 = 28 from rfl] at hD2
  have hC := fun W hW => Check_c st0 (by rfl) W hW
  rw [show chkS st0 = 41 from if_neg (by decide)] at hC
  have hK := fun W => CompareS_c one1 st0 W
  rw [show cmpS one1 st0 = 1 from rfl] at hK
  unfold stV one1 at hP
  unfold stV at hC
  unfold stV one1 at hK
  dsimp only [st0] at hP hC hK
  have HP := Lib.hid hP
  have HU1 := Lib.hid hU1
  have HU2 := Lib.hid hU2
  have HD1 := Lib.hid hD1
  have HD2 := Lib.hid hD2
  have HC := Lib.hid hC
  have HK := Lib.hid hK
  have HT := Lib.hid ht
  have HK0 := Lib.hid (Blk.new w 23 #[.int .i64 1980, .int .i64 1, .int .i64 1, .int .i64 0, .int .i64 0, .int .i64 0])
  clear hP hU1 hU2 hD1 hD2 hC hK ht
  go_enter Tryd.func7, Tryd.ntmps7
  go_wp2_with fail
  refine (HP.out _ (HT.out.alloc _)).mono ?_
  rintro e w2 ⟨rfl, hb2⟩
  have HB2 := Lib.hid (((Below.refl w.heap.size w).alloc (Nat.le_refl _) (.cells #[.int .i64 1980, .int .i64 1, .int .i64 1, .int .i64 0, .int .i64 0, .int .i64 0] 23)).trans (hb2.mono (by simp)))
  have HK2 := Lib.hid (HK0.out.below (by simp) hb2)
  clear hb2 HK0
  go_wp2_with fail
  refine (HU1.out w2 (HT.out.below HB2.out)).mono ?_
  rintro e w3 ⟨rfl, hb3⟩
  have HB3 := Lib.hid ((HB2.out.trans (hb3.mono HB2.out.size)).alloc (HB2.out.trans (hb3.mono HB2.out.size)).size (.cells #[.int .i64 1980, .int .i64 1, .int .i64 1, .int .i64 0, .int .i64 0, .int .i64 0] 23))
  have HK3 := Lib.hid ((HK2.out.below HK2.out.lt hb3).below (HK2.out.below HK2.out.lt hb3).lt ((Below.refl _ w3).alloc (Nat.le_refl _) (.cells #[.int .i64 1980, .int .i64 1, .int .i64 1, .int .i64 0, .int .i64 0, .int .i64 0] 23)))
  have HJ3 := Lib.hid (Blk.new w3 23 #[.int .i64 1980, .int .i64 1, .int .i64 1, .int .i64 0, .int .i64 0, .int .i64 0])
  clear hb3 HB2 HK2
  go_wp2_with fail
  generalize w3.heap.size = g3 at *
  generalize w3.alloc (.cells #[.int .i64 1980, .int .i64 1, .int .i64 1, .int .i64 0, .int .i64 0, .int .i64 0] 23) = w4 at *
  refine (HU2.out w4 (HT.out.below HB3.out)).mono ?_
  rintro e w5 ⟨rfl, hb5⟩
  have HB5 := Lib.hid (HB3.out.trans (hb5.mono HB3.out.size))
  have hk5 := HK3.out.below HK3.out.lt hb5
  have hj5 := HJ3.out.below HJ3.out.lt hb5
  obtain ⟨c0, c1, c2, c3, c4, c5⟩ := sixS (hk5.below hk5.lt ((Below.refl _ w5).alloc (Nat.le_refl _) (.cells #[.int .i64 0, .int .i64 0, .int .i64 0, .int .i64 0, .int .i64 0, .int .i64 0] 23)))
  obtain ⟨d0, d1, d2, d3, d4, d5⟩ := sixS (hj5.below hj5.lt ((Below.refl _ w5).alloc (Nat.le_refl _) (.cells #[.int .i64 0, .int .i64 0, .int .i64 0, .int .i64 0, .int .i64 0, .int .i64 0] 23)))
  have HB6 := Lib.hid (HB5.out.alloc HB5.out.size (.cells #[.int .i64 0, .int .i64 0, .int .i64 0, .int .i64 0, .int .i64 0, .int .i64 0] 23))
  have HK6 := Lib.hid (hk5.below hk5.lt ((Below.refl _ w5).alloc (Nat.le_refl _) (.cells #[.int .i64 0, .int .i64 0, .int .i64 0, .int .i64 0, .int .i64 0, .int .i64 0] 23)))
  clear hb5 hk5 hj5 HB3 HK3 HJ3 HB5
  go_wp2_with fail
  generalize w5.alloc (.cells #[.int .i64 0, .int .i64 0, .int .i64 0, .int .i64 0, .int .i64 0, .int .i64 0] 23) = w6 at *
  refine (HD1.out w6 (HT.out.below HB6.out)).mono ?_
  rintro e _ ⟨rfl, rfl⟩
  go_wp2_with fail
  refine (HD2.out w6 (HT.out.below HB6.out)).mono ?_
  rintro e _ ⟨rfl, rfl⟩
  go_wp2_with fail
  refine (HC.out w6 (HT.out.below HB6.out)).mono ?_
  rintro e w7 ⟨rfl, hb7⟩
  have HB7 := Lib.hid (HB6.out.trans (hb7.mono HB6.out.size))
  clear c0 c1 c2 c3 c4 c5
  obtain ⟨c0, c1, c2, c3, c4, c5⟩ := sixS (HK6.out.below HK6.out.lt hb7)
  clear hb7
  go_wp2_with fail
  refine (HK.out w7).mono ?_
  rintro e w8 ⟨rfl, hb8⟩
  go_wp2
  go_ret
  exact ⟨rfl, HB7.out.trans (hb8.mono HB7.out.size)⟩
end Go.Proofs.YtoodgbognpecjaaDoor
