/-
  THE EXAMPLE AHEAD OF THE THREE STATEMENTS OVER THE PACKERS (soundPack). No conditions (but that the tables lie as the program's text lays them).
-/
import Derived.Test.YtldgdofefcehnaaGreatDoorLaw15r
namespace Go.Proofs.YtldgdofefcehnaaGreatDoor
open Go.RowKit
set_option maxRecDepth 1000000
set_option linter.unusedVariables false
theorem irow_lit8 (w : World) (l : List Int) (n g : Nat) (hn : n = l.length) (hg : g = w.heap.size) (hl : l.length ≤ maxLen) (C : Array Value) (hC : C = (iC l).toArray) (t : TypeId) (fz : Nat × Nat) (hwf : ∀ i, i < n → (Lit.int .i64 (gi l i)).wf = true) : IRow (w.alloc (.cells C t fz)) (some ⟨g, 0, none⟩) n .i64 l := by
 subst hn hg hC
 refine ⟨rfl, hl, fun _ => ⟨w.heap.size, 0, rfl, by simp, fun i hi => ?_⟩, hwf⟩
 have h := heap_alloc_new w (.cells (iC l).toArray t fz)
 rw [Nat.zero_add, cell_of_row _ _ i _ t fz h]
 simpa using iC_at hi
theorem wf112 : ∀ i, i < 3 → (Lit.int .i64 (gi [1, 1, 2] i)).wf = true := by decide +kernel
def lAb : List F := [ofN 97, ofN 98, ofN 97, ofN 98, ofN 97, ofN 98, ofN 97, ofN 98, ofN 97, ofN 98, ofN 97, ofN 98, ofN 97, ofN 98, ofN 97, ofN 98]
def lAc : List F := [ofN 97, ofN 98, ofN 97, ofN 98, ofN 97, ofN 98]
theorem fdAb : fdF lAb 9 = [⟨ofN 97, 0, 0⟩, ⟨ofN 98, 0, 0⟩, ⟨ofN 0, 14, 2⟩] := by kernel_rfl
theorem fixAb : (fixB (fdF lAb 9) false).length ≤ 100 := by rw [fdAb]; decide +kernel
theorem fdAc : (fdF lAc 9).length = 3 := by decide +kernel
theorem exAb_str : ((strB lAb).toList == [97, 98, 97, 98, 97, 98, 97, 98, 97, 98, 97, 98, 97, 98, 97, 98]) = true := by decide +kernel
theorem pacAb {Y : List Bool} (h : PacE lAb 9 9 Y) : (pack Y).length < 16 := by
 unfold PacE at h
 rw [if_pos (by decide)] at h
 have h3 := h.fix
 have h4 := fixAb
 rw [pack_length]
 omega
theorem chk112 : chkE [1, 1, 2] 3 3 = 0 := by decide +kernel
set_option maxHeartbeats 8000000 in
theorem soundPack_c (w : World) (ht : Tabs w) : Calls Tryz.prog 21 #[] w fun e w' => e = .returned (.bool true) ∧ Below w.heap.size w w' := by
 have hcv := fun (w : World) (C : Array Value) (n c : Nat) => Lib.run_convert_bytes_const (P := Tryz.prog) w 22 5 C n c Tryz.underlying22 Tryz.underlying5
 have HT := Lib.hid ht
 clear ht
 go_enter Tryz.func21, Tryz.ntmps21
 go_wp2_with fail
 have L0 := row_litD w lAb 16 _ rfl rfl (by decide) #[.int .u8 97, .int .u8 98, .int .u8 97, .int .u8 98, .int .u8 97, .int .u8 98, .int .u8 97, .int .u8 98, .int .u8 97, .int .u8 98, .int .u8 97, .int .u8 98, .int .u8 97, .int .u8 98, .int .u8 97, .int .u8 98] rfl 5 (16, 17)
 have HB0 : Hid (Below w.heap.size w (w.alloc (.cells #[.int .u8 97, .int .u8 98, .int .u8 97, .int .u8 98, .int .u8 97, .int .u8 98, .int .u8 97, .int .u8 98, .int .u8 97, .int .u8 98, .int .u8 97, .int .u8 98, .int .u8 97, .int .u8 98, .int .u8 97, .int .u8 98] 5 (16, 17)))) := (Below.refl _ _).alloc (Nat.le_refl _) _
 generalize w.alloc (.cells #[.int .u8 97, .int .u8 98, .int .u8 97, .int .u8 98, .int .u8 97, .int .u8 98, .int .u8 97, .int .u8 98, .int .u8 97, .int .u8 98, .int .u8 97, .int .u8 98, .int .u8 97, .int .u8 98, .int .u8 97, .int .u8 98] 5 (16, 17)) = W0 at *
 refine (PackE_c W0 (HT.out.below HB0.out) _ 16 16 lAb L0 (by omega) 9 9 rfl).mono ?_
 rintro e w1 ⟨A1, n1, c1, Y, rfl, hY, hn1, hown1, hb1⟩
 have HP := Lib.hid (pacAb hY)
 have HU := Lib.hid (allF_pack (hY.un (by decide) (M := 99) (by decide)))
 have HN1 := Lib.hid hn1
 have HO1 := Lib.hid hown1
 have HB1 := Lib.hid (HB0.out.trans (hb1.mono HB0.out.size))
 clear L0 HB0 hY hn1 hown1 hb1
 have hn16 : n1 < 16 := by rw [HN1.out]; exact HP.out
 go_wp2_with fail
 refine (All_c w1 (HT.out.below HB1.out) A1 n1 c1 _ (Row.of_own HO1.out) (by omega) 99 99 rfl (by omega)).mono ?_
 rintro e w2 (⟨z, g1, _⟩ | ⟨o2, A2, n2, c2, g1, rfl, hown2, hb2⟩)
 ·rw [HU.out] at g1; cases g1
 rw [HU.out] at g1
 injection g1 with g1
 subst g1
 obtain rfl : n2 = 16 := (own_len hown2).symm
 have HO2 := Lib.hid hown2
 have HB2 := Lib.hid (HB1.out.trans (hb2.mono HB1.out.size))
 clear hown2 hb2 HU HB1 HO1
 go_wp2_with fail
 have hba3 := (Below.refl w2.heap.size w2).alloc (Nat.le_refl _) (.cells #[.int .u8 97, .int .u8 98, .int .u8 97, .int .u8 98, .int .u8 97, .int .u8 98] 5 (6, 7))
 have L3 := row_litD w2 lAc 6 _ rfl rfl (by decide) #[.int .u8 97, .int .u8 98, .int .u8 97, .int .u8 98, .int .u8 97, .int .u8 98] rfl 5 (6, 7)
 have HB3 := Lib.hid (HB2.out.trans (hba3.mono HB2.out.size))
 have HO3 := Lib.hid (own_below HO2.out hba3)
 clear hba3 HB2 HO2
 generalize w2.alloc (.cells #[.int .u8 97, .int .u8 98, .int .u8 97, .int .u8 98, .int .u8 97, .int .u8 98] 5 (6, 7)) = W3 at *
 refine (Find_c _ 6 6 lAc W3 L3 (by omega) 9 9 rfl).mono ?_
 rintro e w4 ⟨A4, c4, N4, rfl, hN4, hown4, hb4⟩
 obtain rfl : N4 = 3 := hN4.trans fdAc
 have HO4 := Lib.hid (own_below HO3.out hb4)
 have HB4 := Lib.hid (HB3.out.trans (hb4.mono HB3.out.size))
 clear L3 HB3 HO3 hN4 hown4 hb4
 go_wp2_with fail
 have hba5 := (Below.refl w4.heap.size w4).alloc (Nat.le_refl _) (.cells #[.int .i64 1, .int .i64 1, .int .i64 2] 3)
 have L5 := irow_lit8 w4 [1, 1, 2] 3 w4.heap.size rfl rfl (by decide) #[.int .i64 1, .int .i64 1, .int .i64 2] rfl 3 (0, 0) wf112
 have HB5 := Lib.hid (HB4.out.trans (hba5.mono HB4.out.size))
 have HO5 := Lib.hid (own_below HO4.out hba5)
 clear hba5 HB4 HO4
 generalize w4.alloc (.cells #[.int .i64 1, .int .i64 1, .int .i64 2] 3) = W5 at *
 refine (MakeG_c _ 3 _ [1, 1, 2] 3 W5 L5 chk112).mono ?_
 rintro e w6 ⟨g, A6, rfl, hI6, hg6, hM6, hb6⟩
 have HE6 := Lib.hid (hM6.err (by decide) (by omega))
 have HO6 := Lib.hid (own_below HO5.out hb6)
 have HB6 := Lib.hid (HB5.out.trans (hb6.mono HB5.out.size))
 have HI6 := Lib.hid hI6
 clear L5 HB5 HO5 hI6 hg6 hM6 hb6
 go_wp2_with fail
 refine (New_lo _ 3 3 _ w6 HI6.out HE6.out).mono ?_
 rintro e w7 ⟨p, gc, LA, lc, S, rfl, hT7, hl7, hb7⟩
 have HO7 := Lib.hid (own_below HO6.out hb7)
 have HB7 := Lib.hid (HB6.out.trans (hb7.mono HB6.out.size))
 clear hT7 hl7 hb7 HI6 HE6 HB6 HO6
 have r1 := run_row_string c2 (Row.of_own HO7.out)
 have e1 := exAb_str
 have hn16' : (n1 : Int) < 16 := by omega
 go_wp2
 go_ret
 exact ⟨rfl, HB7.out⟩
end Go.Proofs.YtldgdofefcehnaaGreatDoor
