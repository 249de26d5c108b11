/-
  LAW 23: the law's own example. No conditions.
-/
import Derived.Test.YtbmkcnlcffnjgaaSrl
import Derived.Test.YtbmkcnlcffnjgaaRef6
import Derived.Test.YtbmkcnlcffnjgaaSre
import Derived.Test.YtbmkcnlcffnjgaaSrb
import Derived.Lib.SlBytesConst
namespace Go.Proofs.Ytbmkcnlcffnjgaa
open Go.RowKit
set_option maxRecDepth 100000
set_option linter.unusedVariables false

theorem row_litM (w : World) (l : List F) (n g : Nat) (hn : n = l.length) (hg : g = w.heap.size) (hl : l.length ≤ maxLen) (C : Array Value) (hC : C = (cs l).toArray) (t : TypeId) (fz : Nat × Nat) : Row (w.alloc (.cells C t fz)) (some ⟨g, 0, none⟩) n l := by
  subst hn hg hC
  refine ⟨rfl, hl, fun _ => ⟨w.heap.size, 0, rfl, by simp, fun i hi => ?_⟩⟩
  have h := heap_alloc_new w (.cells (cs l).toArray t fz)
  rw [Nat.zero_add, cell_of_row _ _ i _ t fz h]
  simpa using cs_at hi
def ab23 : List F := [ofN 97, ofN 98]
def col_ab : List F := [ofN 2, 0, 0, 0, 0, 0, 0, 0, ofN 97, ofN 98, 0, 0, 0]
theorem ex_col : col23 ab23 5 = col_ab := rfl
theorem ex_vol : vol23 col_ab = (0, ab23) := by decide +kernel
theorem ex_vol9 : vol23 [ofN 9, 0, 0, 0, 0, 0, 0, 0] = (23, []) := by decide +kernel
theorem sB_ab : strB ab23 = ⟨#[97, 98]⟩ := rfl
theorem sB_col : strB col_ab = ⟨#[2, 0, 0, 0, 0, 0, 0, 0, 97, 98, 0, 0, 0]⟩ := rfl
theorem sB_1 : strB [1] = ⟨#[1]⟩ := rfl
def exR : Nat → List F := fun r => if r = 0 then [ofN 5] else [ofN 7]
theorem ex_in23 (w : World) (T : TypeId) : MIn (((w.alloc (.cells #[.int .u8 5] 5)).alloc (.cells #[.int .u8 7] 5)).alloc (.cells #[.slice (some ⟨w.heap.size, 0, none⟩) 1 1, .slice (some ⟨w.heap.size + 1, 0, none⟩) 1 1] T)) (some ⟨w.heap.size + 1 + 1, 0, none⟩) 2 2 (fun r => if r = 0 then some ⟨w.heap.size, 0, none⟩ else some ⟨w.heap.size + 1, 0, none⟩) (fun _ => 1) (fun _ => 1) exR := by
  have h1 : Row (w.alloc (.cells #[.int .u8 5] 5)) (some ⟨w.heap.size, 0, none⟩) 1 [ofN 5] := row_lit w [ofN 5] 1 w.heap.size rfl rfl (by unfold maxLen; decide) #[.int .u8 5] rfl 5
  have h2 : Row ((w.alloc (.cells #[.int .u8 5] 5)).alloc (.cells #[.int .u8 7] 5)) (some ⟨w.heap.size + 1, 0, none⟩) 1 [ofN 7] := row_lit _ [ofN 7] 1 (w.heap.size + 1) rfl (by simp) (by unfold maxLen; decide) #[.int .u8 7] rfl 5
  have h := rows_lit (w := (w.alloc (.cells #[.int .u8 5] 5)).alloc (.cells #[.int .u8 7] 5)) (n := 2) (RA := fun r => if r = 0 then some ⟨w.heap.size, 0, none⟩ else some ⟨w.heap.size + 1, 0, none⟩) (RL := fun _ => 1) (RC := fun _ => 1) (R := exR) (fun r hr => by
    rcases (show r = 0 ∨ r = 1 by omega) with rfl | rfl
    · exact ⟨h1.below ((Below.refl _ _).alloc (Nat.le_refl _) _), Nat.le_refl _, by unfold maxLen; omega⟩
    · exact ⟨h2, Nat.le_refl _, by unfold maxLen; omega⟩) #[.slice (some ⟨w.heap.size, 0, none⟩) 1 1, .slice (some ⟨w.heap.size + 1, 0, none⟩) 1 1] (fun r hr => by
    rcases (show r = 0 ∨ r = 1 by omega) with rfl | rfl <;> rfl) T (by unfold maxLen; omega)
  rw [World.size_alloc, World.size_alloc] at h
  exact h
theorem ex_par {x : F} (h : ParAt 2 (rowAt exR 2 0) 0 x) : x = 1 := by
  obtain ⟨T, h1, h2⟩ := h
  have e := T57 h1
  subst e
  rw [← h2]
  decide +kernel
set_option maxHeartbeats 4000000 in
theorem alive23_c (w : World) : Calls Try.prog 7 #[] w fun e w' => e = .returned (.bool true) ∧ Below w.heap.size w w' := by
  have hcv := fun (w : World) (C : Array Value) (n c : Nat) => Lib.run_convert_bytes_const (P := Try.prog) w 22 5 C n c Try.underlying22 Try.underlying5
  have hcv2 := hcv w #[.int .u8 97, .int .u8 98] 2 2
  go_enter Try.func7, Try.ntmps7
  go_wp2_with fail
  clear hcv2
  refine (Column_c (b := ab23) ⟨row_litM w ab23 2 w.heap.size rfl rfl (by unfold maxLen; decide) #[.int .u8 97, .int .u8 98] rfl 5 (2, 3), Nat.le_refl _, by unfold maxLen; omega⟩ 5 rfl).mono ?_
  rintro e w1 (⟨hno, _⟩ | ⟨_, _, hno, _⟩ | ⟨S, g1, hS, _, _, _, rfl, hown, hb1⟩)
  · exact absurd (by decide) hno
  · exact absurd hno (by decide)
  obtain rfl : S = 5 := by omega
  rw [ex_col, show (8 : Nat) + 5 = 13 from rfl] at hown
  rw [show (8 : Nat) + 5 = 13 from rfl]
  have HB1 : Hid (Below w.heap.size w w1) := ((Below.refl _ _).alloc (Nat.le_refl _) _).trans (hb1.mono (by simp))
  have HR1 := Lib.hid (own_RowIn hown)
  clear hown hb1 hS
  go_wp2_with fail
  refine (Volume_c HR1.out (by omega)).mono ?_
  rintro e w2 h2
  unfold VoR at h2
  rw [ex_vol] at h2
  have h2' : ∃ A c, e = .returned (.tuple #[.slice A 2 c, .int .i64 0]) ∧ w2.ownsRow w1.heap.size 5 1 (.slice A 2 c) 2 (cs ab23) ∧ Below w1.heap.size w1 w2 := h2
  clear h2
  obtain ⟨A2, c2, rfl, hown2, hb2⟩ := h2'
  have HV2 := Lib.hid (Row.of_own hown2)
  have HB2 := Lib.hid (HB1.out.trans (hb2.mono HB1.out.size))
  have HR2 := Lib.hid (HR1.out.below hb2)
  clear hown2 hb2 HB1 HR1
  go_wp2_with fail
  refine (Volume_c (l := [ofN 9, 0, 0, 0, 0, 0, 0, 0]) ⟨row_lit w2 [ofN 9, 0, 0, 0, 0, 0, 0, 0] 8 w2.heap.size rfl rfl (by unfold maxLen; decide) #[.int .u8 9, .int .u8 0, .int .u8 0, .int .u8 0, .int .u8 0, .int .u8 0, .int .u8 0, .int .u8 0] rfl 5, Nat.le_refl _, by unfold maxLen; omega⟩ (by omega)).mono ?_
  rintro e w3 h3
  unfold VoR at h3
  rw [ex_vol9] at h3
  have h3' : ∃ A c, e = .returned (.tuple #[.slice A 0 c, .int .i64 23]) ∧ w3.ownsRow ((w2.alloc (.cells #[.int .u8 9, .int .u8 0, .int .u8 0, .int .u8 0, .int .u8 0, .int .u8 0, .int .u8 0, .int .u8 0] 5)).heap.size) 5 1 (.slice A 0 c) 0 (cs []) ∧ Below ((w2.alloc (.cells #[.int .u8 9, .int .u8 0, .int .u8 0, .int .u8 0, .int .u8 0, .int .u8 0, .int .u8 0, .int .u8 0] 5)).heap.size) (w2.alloc (.cells #[.int .u8 9, .int .u8 0, .int .u8 0, .int .u8 0, .int .u8 0, .int .u8 0, .int .u8 0, .int .u8 0] 5)) w3 := h3
  clear h3
  obtain ⟨A3, c3, rfl, _, hb3⟩ := h3'
  have hba : Below w2.heap.size w2 w3 := ((Below.refl _ _).alloc (Nat.le_refl _) _).trans (hb3.mono (by simp))
  have HV3 := Lib.hid (HV2.out.below hba)
  have HB3 := Lib.hid (HB2.out.trans (hba.mono HB2.out.size))
  have HR3 := Lib.hid (HR2.out.below hba)
  clear hba hb3 HV2 HB2 HR2
  go_wp2_with fail
  refine (Parity_yes (ex_in23 w3 22) (fun r hr => rfl) (by omega) (k := 1) (by omega) (by omega)).mono ?_
  rintro e w5 ⟨g5, hi5, G5, M5, rfl, hM, hpar, hb5⟩
  have hm1 := ex_par (hpar 0 (by omega) 0 (by omega))
  have hba : Below w3.heap.size w3 w5 := ((((Below.refl w3.heap.size w3).alloc (Nat.le_refl _) _).alloc (by simp) _).alloc (by simp; omega) _).trans (hb5.mono (by simp; omega))
  have hcell : Row w5 (some ⟨G5 0, 0, none⟩) 1 [1] := by
    have h1 := (hM.rows 0 (by omega)).row (by unfold maxLen; omega) (k := 0) (m := 1) (by omega)
    have e : mkF (fun j => M5 0 (0 + j)) 1 = [1] := by show [M5 0 0] = [1]; rw [hm1]
    rw [e] at h1
    exact h1
  have HP5 := Lib.hid hcell
  have HT5 := Lib.hid (hM.topAt (r := 0) (by omega))
  have hg5 : g5 < w5.heap.size := hM.top.lt
  have HV5 := Lib.hid (HV3.out.below hba)
  have HB5 := Lib.hid (HB3.out.trans (hba.mono HB3.out.size))
  have HR5 := Lib.hid (HR3.out.below hba)
  clear hM hpar hb5 hm1 hba hcell HV3 HB3 HR3
  go_wp2_with fail
  refine (Parity_no (MIn.nil w5) 1 (x := 1) rfl (by omega)).mono ?_
  rintro e w6 ⟨rfl, hb6⟩
  have HP6 := Lib.hid (HP5.out.below hb6)
  have HT6 := Lib.hid ((hb6.cell (p := ⟨g5, 0, none⟩) hg5).trans HT5.out)
  have HV6 := Lib.hid (HV5.out.below hb6)
  have HB6 := Lib.hid (HB5.out.trans (hb6.mono HB5.out.size))
  have HR6 := Lib.hid (HR5.out.below hb6)
  have hg6 : g5 < w6.heap.size := Nat.lt_of_lt_of_le hg5 hb6.size
  clear hb6 HP5 HT5 HV5 HB5 HR5
  have hba : Below w6.heap.size w6 (w6.alloc (.cells #[.int .i64 2, .int .i64 1, .int .i64 5, .int .i64 4] 24)) := (Below.refl _ _).alloc (Nat.le_refl _) _
  have HK7 := Lib.hid (Blk.new w6 24 #[.int .i64 2, .int .i64 1, .int .i64 5, .int .i64 4])
  have hs1 := run_row_string 13 (HR6.out.below hba).row
  have hs2 := run_row_string c2 (HV6.out.below hba)
  have hs3 := run_row_string 1 (HP6.out.below hba)
  rw [sB_col] at hs1
  rw [sB_ab] at hs2
  rw [sB_1] at hs3
  have hT7 := (hba.cell (p := ⟨g5, 0, none⟩) hg6).trans HT6.out
  have HB7 := Lib.hid (HB6.out.trans (hba.mono HB6.out.size))
  have hld7 := ld_g23 HK7.out rfl
  clear hba HP6 HT6 HV6 HB6 HR6
  go_wp2_with fail
  have hw4 : Wf4 2 1 5 4 := ⟨rfl, rfl, rfl, rfl⟩
  refine (Right_c hw4 _).mono ?_
  rintro e w8 ⟨rfl, hb8⟩
  rw [show right23 2 1 5 4 = true by decide]
  have HK8 := Lib.hid (HK7.out.below HK7.out.lt hb8)
  have HB8 := Lib.hid (HB7.out.trans (hb8.mono HB7.out.size))
  have z0 : w8.cell? ⟨w6.heap.size, 0, none⟩ = some (.int .i64 2) := HK8.out.cell 0
  have z1 : w8.cell? ⟨w6.heap.size, 1, none⟩ = some (.int .i64 1) := HK8.out.cell 1
  have z2 : w8.cell? ⟨w6.heap.size, 2, none⟩ = some (.int .i64 5) := HK8.out.cell 2
  have z3 : w8.cell? ⟨w6.heap.size, 3, none⟩ = some (.int .i64 4) := HK8.out.cell 3
  clear hb8 HK7 HB7 hld7 hs1 hs2 hs3 hT7
  go_wp2_with fail
  refine (Long_c hw4 _).mono ?_
  rintro e w9 ⟨rfl, hb9⟩
  rw [show long23 2 1 5 4 = 13 by decide]
  have HK9 := Lib.hid (HK8.out.below HK8.out.lt hb9)
  have HB9 := Lib.hid (HB8.out.trans (hb9.mono HB8.out.size))
  have y0 : w9.cell? ⟨w6.heap.size, 0, none⟩ = some (.int .i64 2) := HK9.out.cell 0
  have y1 : w9.cell? ⟨w6.heap.size, 1, none⟩ = some (.int .i64 1) := HK9.out.cell 1
  have y2 : w9.cell? ⟨w6.heap.size, 2, none⟩ = some (.int .i64 5) := HK9.out.cell 2
  have y3 : w9.cell? ⟨w6.heap.size, 3, none⟩ = some (.int .i64 4) := HK9.out.cell 3
  clear hb9 HK8 HB8 z0 z1 z2 z3
  go_wp2_with fail
  refine (Blocks_yes (s := 5) (b := 4) hw4 (by decide) _).mono ?_
  rintro e w10 ⟨rfl, hb10⟩
  rw [show ((((8 + 5 + 4 - 1) / 4 : Nat)) : Int) = 4 by decide]
  have HB10 := Lib.hid (HB9.out.trans (hb10.mono HB9.out.size))
  clear hb10 HK9 HB9 y0 y1 y2 y3
  go_wp2_with fail
  refine (Blocks_no (N := 0) (K := 0) (S := 0) (B := 0) ⟨rfl, rfl, rfl, rfl⟩ (by decide) _).mono ?_
  rintro e w11 ⟨rfl, hb11⟩
  have HB11 := Lib.hid (HB10.out.trans (hb11.mono HB10.out.size))
  clear hb11 HB10
  go_wp2
  go_ret
  exact ⟨rfl, HB11.out⟩
end Go.Proofs.Ytbmkcnlcffnjgaa
