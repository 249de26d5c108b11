/-
  LAW 21: the law's own example. No conditions.
-/
import Derived.Test.YtfjpbbejhegcjaaVld
import Derived.Test.YtfjpbbejhegcjaaVle
import Derived.Test.YtfjpbbejhegcjaaVlh
import Derived.Lib.SlBytesConst
namespace Go.Proofs.Ytfjpbbejhegcjaa
open Go.RowKit
set_option maxRecDepth 100000
set_option linter.unusedVariables false

def two' {α : Type} (a b : α) : Nat → α := fun r => if r = 0 then a else b
def exR : Nat → List F := two' [ofN 97, ofN 98] [ofN 99]
def exL : Nat → Nat := two' 2 1
theorem exL_2 : lenTo exL 2 = 3 := rfl
theorem row_litM (w : World) (l : List F) (n g : Nat) (hn : n = l.length) (hg : g = w.heap.size) (hl : l.length ≤ maxLen) (C : Array Value) (hC : C = (cs l).toArray) (t : TypeId) (fz : Nat × Nat) : Row (w.alloc (.cells C t fz)) (some ⟨g, 0, none⟩) n l := by
  subst hn hg hC
  refine ⟨rfl, hl, fun _ => ⟨w.heap.size, 0, rfl, by simp, fun i hi => ?_⟩⟩
  have h := heap_alloc_new w (.cells (cs l).toArray t fz)
  rw [Nat.zero_add, cell_of_row _ _ i _ t fz h]
  simpa using cs_at hi
theorem ex_in (w : World) (T : TypeId) (g h : Nat) (hg : g = w.heap.size) (hh : h = w.heap.size + 1) :
    MIn (((w.alloc (.cells #[.int .u8 97, .int .u8 98] 5 (2, 3))).alloc (.cells #[.int .u8 99] 5 (1, 2))).alloc (.cells #[.slice (some ⟨g, 0, none⟩) 2 2, .slice (some ⟨h, 0, none⟩) 1 1] T)) (some ⟨w.heap.size + 2, 0, none⟩) 2 2 (two' (some ⟨g, 0, none⟩) (some ⟨h, 0, none⟩)) exL exL exR := by
  subst hg hh
  have r0 := row_litM w [ofN 97, ofN 98] 2 w.heap.size rfl rfl (by unfold maxLen; decide) #[.int .u8 97, .int .u8 98] rfl 5 (2, 3)
  have r1 := row_litM (w.alloc (.cells #[.int .u8 97, .int .u8 98] 5 (2, 3))) [ofN 99] 1 (w.heap.size + 1) rfl (by simp) (by unfold maxLen; decide) #[.int .u8 99] rfl 5 (1, 2)
  have hb := (Below.refl (w.alloc (.cells #[.int .u8 97, .int .u8 98] 5 (2, 3))).heap.size _).alloc (Nat.le_refl _) (.cells #[.int .u8 99] 5 (1, 2))
  have h0 : RowIn ((w.alloc (.cells #[.int .u8 97, .int .u8 98] 5 (2, 3))).alloc (.cells #[.int .u8 99] 5 (1, 2))) (some ⟨w.heap.size, 0, none⟩) 2 2 [ofN 97, ofN 98] := ⟨r0.below hb, Nat.le_refl _, by unfold maxLen; decide⟩
  have h1 : RowIn ((w.alloc (.cells #[.int .u8 97, .int .u8 98] 5 (2, 3))).alloc (.cells #[.int .u8 99] 5 (1, 2))) (some ⟨w.heap.size + 1, 0, none⟩) 1 1 [ofN 99] := ⟨r1, Nat.le_refl _, by unfold maxLen; decide⟩
  have hm := rows_lit (w := (w.alloc (.cells #[.int .u8 97, .int .u8 98] 5 (2, 3))).alloc (.cells #[.int .u8 99] 5 (1, 2))) (n := 2) (RA := two' (some ⟨w.heap.size, 0, none⟩) (some ⟨w.heap.size + 1, 0, none⟩)) (RL := exL) (RC := exL) (R := exR) (fun r hr => by
    rcases (show r = 0 ∨ r = 1 by omega) with rfl | rfl
    · exact h0
    · exact h1) #[.slice (some ⟨w.heap.size, 0, none⟩) 2 2, .slice (some ⟨w.heap.size + 1, 0, none⟩) 1 1] (fun r hr => by
    rcases (show r = 0 ∨ r = 1 by omega) with rfl | rfl <;> rfl) T (by unfold maxLen; omega)
  have e : ((w.alloc (.cells #[.int .u8 97, .int .u8 98] 5 (2, 3))).alloc (.cells #[.int .u8 99] 5 (1, 2))).heap.size = w.heap.size + 2 := by simp
  rw [e] at hm
  exact hm
def exT : Nat → Bool := two' true false
def exRT : Nat → List F := two' [ofN 97, ofN 98] []
def exLT : Nat → Nat := two' 2 0
theorem exT_in {w : World} {g : Nat} (h : RowIn w (some ⟨g, 0, none⟩) 2 2 [ofN 97, ofN 98]) (T : TypeId) (q : Nat) (hq : q = w.heap.size) :
    TIn (w.alloc (.cells #[.bool true, .slice (some ⟨g, 0, none⟩) 2 2, .bool false, .slice none 0 0] T)) (some ⟨q, 0, none⟩) 2 2 exT (two' (some ⟨g, 0, none⟩) none) exLT exLT exRT := by
  subst hq
  have hK := Blk.new w T #[.bool true, .slice (some ⟨g, 0, none⟩) 2 2, .bool false, .slice none 0 0]
  have hb := (Below.refl w.heap.size w).alloc (Nat.le_refl _) (.cells #[.bool true, .slice (some ⟨g, 0, none⟩) 2 2, .bool false, .slice none 0 0] T)
  refine ⟨Nat.le_refl _, by unfold maxLen; decide, fun _ => ⟨w.heap.size, 0, rfl, hK.lt, fun r hr => ?_⟩, fun r hr => ?_⟩
  · rcases (show r = 0 ∨ r = 1 by omega) with rfl | rfl
    · exact ⟨hK.cell 0, hK.cell 1⟩
    · exact ⟨hK.cell 2, hK.cell 3⟩
  · rcases (show r = 0 ∨ r = 1 by omega) with rfl | rfl
    · exact h.below hb
    · exact RowIn.nil_ _
theorem strB_bc : strB [ofN 98, ofN 99] = ⟨#[98, 99]⟩ := rfl
theorem strB_b : strB [ofN 98] = ⟨#[98]⟩ := rfl
set_option maxHeartbeats 4000000 in
theorem alive21_c (w : World) : Calls Try.prog 4 #[] w fun e w' => e = .returned (.bool true) ∧ Below w.heap.size w w' := by
  have hcv := fun (w : World) (C : Array Value) (n c : Nat) => Lib.run_convert_bytes_const (P := Try.prog) w 25 5 C n c Try.underlying25 Try.underlying5
  have hcv2 := hcv (w.alloc (.cells #[.int .u8 97, .int .u8 98] 5 (2, 3))) #[.int .u8 99] 1 1
  rw [World.size_alloc] at hcv2
  have hl : ∀ r, r < 2 → exL r ≤ 100000 := fun r hr => by rcases (show r = 0 ∨ r = 1 by omega) with rfl | rfl <;> decide
  have hl2 : ∀ r, r < 2 → exL r ≤ 1048576 := fun r hr => by have := hl r hr; omega
  have ht2 : ∀ r, r < 2 → exLT r ≤ 1048576 := fun r hr => by rcases (show r = 0 ∨ r = 1 by omega) with rfl | rfl <;> decide
  have HI := Lib.hid (ex_in w 25 w.heap.size (w.heap.size + 1) rfl rfl)
  have HB := Lib.hid ((((Below.refl w.heap.size w).alloc (Nat.le_refl _) (.cells #[.int .u8 97, .int .u8 98] 5 (2, 3))).alloc (by simp) (.cells #[.int .u8 99] 5 (1, 2))).alloc (by simp; omega) (.cells #[.slice (some ⟨w.heap.size, 0, none⟩) 2 2, .slice (some ⟨w.heap.size + 1, 0, none⟩) 1 1] 25))
  go_enter Try.func4, Try.ntmps4
  go_wp2_with fail
  generalize ((w.alloc (.cells #[.int .u8 97, .int .u8 98] 5 (2, 3))).alloc (.cells #[.int .u8 99] 5 (1, 2))).alloc (.cells #[.slice (some ⟨w.heap.size, 0, none⟩) 2 2, .slice (some ⟨w.heap.size + 1, 0, none⟩) 1 1] 25) = W0 at *
  refine (Place_c HI.out (by omega) hl2 2 (by decide)).mono ?_
  rintro e W1 ⟨d, o, ok, rfl, hP, hb1⟩
  obtain ⟨rfl, rfl, rfl⟩ := hP.unique (d' := 1) (o' := 0) (k' := true) (.inr (.inr ⟨rfl, by omega, by decide, rfl⟩))
  have hba := (Below.refl W1.heap.size W1).alloc (Nat.le_refl _) (.cells (plC ((1 : Nat) : Int) ((0 : Nat) : Int)) 40)
  have HI1 := Lib.hid ((HI.out.below hb1).below hba)
  have HK1 := Lib.hid (Blk.new W1 40 (plC ((1 : Nat) : Int) ((0 : Nat) : Int)))
  have HB1 := Lib.hid ((HB.out.trans (hb1.mono HB.out.size)).trans (hba.mono (HB.out.trans (hb1.mono HB.out.size)).size))
  clear hP hb1 hba HI HB
  have hix := IndexI_c HI1.out (by omega) hl2 1 0 (by omega) (by decide)
  have HIX := Lib.hid hix
  clear hix
  unfold plV plC at *
  go_wp2_with fail
  refine HIX.out.mono ?_
  rintro e W2 ⟨rfl, hb2⟩
  have HI2 := Lib.hid (HI1.out.below hb2)
  have HK2 := Lib.hid (HK1.out.below HK1.out.lt hb2)
  have HB2 := Lib.hid (HB1.out.trans (hb2.mono HB1.out.size))
  clear HIX hb2 HI1 HK1 HB1
  go_wp2_with fail
  refine (Bytes_c HI2.out (by omega) hl 1 2 (by decide) (by decide)).mono ?_
  rintro e W3 (⟨a0, m0, A3, c3, ha, hm, _, rfl, hr3, hb3⟩ | ⟨hno, _, _⟩)
  case inr => exact absurd hno (by rw [exL_2]; decide)
  obtain rfl : a0 = 1 := by omega
  obtain rfl : m0 = 2 := by omega
  have HI3 := Lib.hid (HI2.out.below hb3)
  have HK3 := Lib.hid (HK2.out.below HK2.out.lt hb3)
  have HB3 := Lib.hid (HB2.out.trans (hb3.mono HB2.out.size))
  have HR3 : Hid (RowIn W3 A3 2 c3 [ofN 98, ofN 99]) := hr3
  clear ha hm hr3 hb3 HI2 HK2 HB2
  go_wp2_with fail
  refine (Bytes_c HI3.out (by omega) hl 2 2 (by decide) (by decide)).mono ?_
  rintro e W4 (⟨a0, m0, A4, c4, ha, hm, hle, rfl, hr4, hb4⟩ | ⟨hno, rfl, hb4⟩)
  case inl => exact absurd hle (by rw [exL_2]; omega)
  have HI4 := Lib.hid (HI3.out.below hb4)
  have HK4 := Lib.hid (HK3.out.below HK3.out.lt hb4)
  have HB4 := Lib.hid (HB3.out.trans (hb4.mono HB3.out.size))
  have HR4 := Lib.hid (HR3.out.below hb4)
  clear hno hb4 HI3 HK3 HB3 HR3
  obtain ⟨bt, ot, et, hlt, z0⟩ := HI4.out.at_ (r := 0) (by omega)
  injection et with et
  injection et with et1 et2 et3
  subst et1 et2
  have z0' : W4.cell? ⟨w.heap.size + 2, 0, none⟩ = some (.slice (some ⟨w.heap.size, 0, none⟩) 2 2) := z0
  have hrw : RowIn W4 (some ⟨w.heap.size, 0, none⟩) 2 2 [ofN 97, ofN 98] := HI4.out.row 0 (by omega)
  have hT := exT_in hrw 27 W4.heap.size rfl
  have hba := (Below.refl W4.heap.size W4).alloc (Nat.le_refl _) (.cells #[.bool true, .slice (some ⟨w.heap.size, 0, none⟩) 2 2, .bool false, .slice none 0 0] 27)
  have HT5 := Lib.hid hT
  have HI5 := Lib.hid (HI4.out.below hba)
  have HK5 := Lib.hid (HK4.out.below HK4.out.lt hba)
  have HB5 := Lib.hid (HB4.out.trans (hba.mono HB4.out.size))
  have HR5 := Lib.hid (HR4.out.below hba)
  clear z0 hrw hT hba HI4 HK4 HB4 HR4 et3
  go_wp2_with fail
  generalize W4.alloc (.cells #[.bool true, .slice (some ⟨w.heap.size, 0, none⟩) 2 2, .bool false, .slice none 0 0] 27) = W5 at *
  generalize W4.heap.size = gt5 at *
  clear z0'
  refine (RowV_c HT5.out (by omega) ht2 1 (by decide)).mono ?_
  rintro e W6 (⟨hne, _, _⟩ | ⟨n0, A6, c6, RA6, RC6, _, hn0, _, _, rfl, hm6, hb6⟩)
  case inl => exact absurd rfl hne
  obtain rfl : n0 = 1 := by omega
  have HI6 := Lib.hid (HI5.out.below hb6)
  have HT6 := Lib.hid (HT5.out.below hb6)
  have HK6 := Lib.hid (HK5.out.below HK5.out.lt hb6)
  have HB6 := Lib.hid (HB5.out.trans (hb6.mono HB5.out.size))
  have HR6 := Lib.hid (HR5.out.below hb6)
  clear hn0 hm6 hb6 HI5 HT5 HK5 HB5 HR5
  go_wp2_with fail
  refine (RowV_c HT6.out (by omega) ht2 2 (by decide)).mono ?_
  rintro e W7 (⟨_, rfl, hb7⟩ | ⟨n0, A7, c7, RA7, RC7, h0, hn0, _, _, _, _, _⟩)
  case inr => exact absurd h0 (by decide)
  rw [show rwE exT exLT 2 2 = 52 from by decide]
  have HI7 := Lib.hid (HI6.out.below hb7)
  have HT7 := Lib.hid (HT6.out.below hb7)
  have HK7 := Lib.hid (HK6.out.below HK6.out.lt hb7)
  have HB7 := Lib.hid (HB6.out.trans (hb7.mono HB6.out.size))
  have HR7 := Lib.hid (HR6.out.below hb7)
  clear hb7 HI6 HT6 HK6 HB6 HR6
  have k0 := show _ = some (Value.int .i64 1) from (HK7.out.cell 0).trans rfl
  have k1 := show _ = some (Value.int .i64 0) from (HK7.out.cell 1).trans rfl
  have hcs := run_row_string c3 HR7.out.row
  rw [strB_bc] at hcs
  go_wp2_with fail
  refine (Rest_c HI7.out (by omega) hl2 1 (by decide)).mono ?_
  rintro e W8 ⟨A8, N8, c8, l8, rfl, hr8, hs8, hb8⟩
  have hl8 : l8 = [ofN 98] := by
    rcases hs8 with ⟨d, o, hd, ho, he, rfl⟩ | ⟨hno, _⟩
    · have hd0 : d = 0 := by
        rcases (show d = 0 ∨ d = 1 by omega) with e | e
        · exact e
        · subst e
          have e2 : lenTo exL 1 = 2 := rfl
          rw [e2] at he
          omega
      subst hd0
      have e2 : lenTo exL 0 = 0 := rfl
      rw [e2] at he
      obtain rfl : o = 1 := by omega
      rfl
    · exact absurd hno (by rw [exL_2]; decide)
  subst hl8
  obtain rfl : 1 = N8 := hr8.row.len
  have hcs2 := run_row_string c8 hr8.row
  rw [strB_b] at hcs2
  have HI8 := Lib.hid (HI7.out.below hb8)
  have HT8 := Lib.hid (HT7.out.below hb8)
  have HB8 := Lib.hid (HB7.out.trans (hb8.mono HB7.out.size))
  clear hs8 hr8 hb8 HI7 HT7 HK7 HB7 HR7 k0 k1 hcs
  go_wp2_with fail
  refine (Size_c HI8.out (by omega) hl2).mono ?_
  rintro e _ ⟨rfl, rfl⟩
  rw [exL_2]
  go_wp2_with fail
  refine (Count_c HT8.out).mono ?_
  rintro e W9 ⟨rfl, hb9⟩
  rw [show cntS exT 2 = 1 from rfl]
  have HT9 := Lib.hid (HT8.out.below hb9)
  have HB9 := Lib.hid (HB8.out.trans (hb9.mono HB8.out.size))
  clear hb9 HT8 HB8 HI8 hcs2
  go_wp2_with fail
  refine (CloneT_c HT9.out (by omega) ht2).mono ?_
  rintro e W10 ⟨A10, c10, RA10, RC10, rfl, hT10, hb10⟩
  have HT10 := Lib.hid (HT9.out.below hb10)
  have HC10 := Lib.hid hT10
  have HB10 := Lib.hid (HB9.out.trans (hb10.mono HB9.out.size))
  clear hT10 hb10 HT9 HB9
  go_wp2_with fail
  refine (SameT21_c HC10.out HT10.out.two).mono ?_
  rintro e W11 ⟨rfl, hb11⟩
  rw [decide_eq_true (show sameT 2 exT exRT 2 exT exRT from ⟨rfl, fun r hr => by rcases (show r = 0 ∨ r = 1 by omega) with rfl | rfl <;> decide⟩)]
  have HB11 := Lib.hid (HB10.out.trans (hb11.mono HB10.out.size))
  clear hb11 HB10 HT10 HC10
  go_wp2
  go_ret
  exact ⟨rfl, HB11.out⟩
end Go.Proofs.Ytfjpbbejhegcjaa
