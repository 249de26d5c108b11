/-
  LAW 20: the law's own example. No conditions. (WRITTEN by wip/gen20.py.)
-/
import Derived.Test.YthpgeehfmblbhaaTll
namespace Go.Proofs.Ythpgeehfmblbhaa
open Go.RowKit
set_option maxRecDepth 100000
set_option linter.unusedVariables false

theorem tlX_V : tlV tlX = .agg #[.int .u32 1, .int .u32 2, .int .u64 3, .int .u64 70000, .int .u64 5, .int .u64 6, .int .u32 7, .int .u32 8, .int .u64 9] := rfl
theorem tl0_V : tlV tl0 = .agg #[.int .u32 0, .int .u32 0, .int .u64 0, .int .u64 0, .int .u64 0, .int .u64 0, .int .u32 0, .int .u32 0, .int .u64 0] := rfl
/-- what stands in the example: both boxes, the three rows -/
structure Al20 (w W : World) (g1 g2 : Nat) (A1 : Option Addr) (c1 : Nat) (A2 : Option Addr) (c2 : Nat) (A3 : Option Addr) (c3 : Nat) : Prop where
  b1 : Blk W g1 25 #[.int .u32 0, .int .u32 0, .int .u64 0, .int .u64 0, .int .u64 0, .int .u64 0, .int .u32 0, .int .u32 0, .int .u64 0]
  b2 : Blk W g2 25 #[.int .u32 1, .int .u32 2, .int .u64 3, .int .u64 70000, .int .u64 5, .int .u64 6, .int .u32 7, .int .u32 8, .int .u64 9]
  r1 : RowIn W A1 56 c1 (tlB1 tlX)
  r2 : RowIn W A2 20 c2 (tlB2 tlX)
  r3 : RowIn W A3 22 c3 (tlB3 tlX)
  bel : Below w.heap.size w W
theorem Al20.below {w W W' : World} {g1 g2 : Nat} {A1 : Option Addr} {c1 : Nat} {A2 : Option Addr} {c2 : Nat} {A3 : Option Addr} {c3 : Nat} (a : Al20 w W g1 g2 A1 c1 A2 c2 A3 c3) (hb : Below W.heap.size W W') : Al20 w W' g1 g2 A1 c1 A2 c2 A3 c3 :=
  ⟨a.b1.below a.b1.lt hb, a.b2.below a.b2.lt hb, a.r1.below hb, a.r2.below hb, a.r3.below hb, a.bel.trans (hb.mono a.bel.size)⟩
theorem Al20.alloc {w W : World} {g1 g2 : Nat} {A1 : Option Addr} {c1 : Nat} {A2 : Option Addr} {c2 : Nat} {A3 : Option Addr} {c3 : Nat} (a : Al20 w W g1 g2 A1 c1 A2 c2 A3 c3) (o : Obj) : Al20 w (W.alloc o) g1 g2 A1 c1 A2 c2 A3 c3 := a.below ((Below.refl _ _).alloc (Nat.le_refl _) o)
theorem strB_head : strB [ofN 80, ofN 75, ofN 5, ofN 6] = ⟨#[80, 75, 5, 6]⟩ := rfl
set_option maxHeartbeats 4000000 in
theorem alive20_c (w : World) : Calls Try.prog 8 #[] w fun e w' => e = .returned (.bool true) ∧ Below w.heap.size w w' := by
  have hg1 := fun W => Great_c tlX tlX_W W
  have hg2 := fun W => Locator_c tlX tlX_W W
  have hg3 := fun W => End_c tlX tlX_W W
  have he0 := fun W => End_c tl0 tl0_W W
  have hp1 := fun W A1 c1 A2 c2 A3 c3 h1 h2 h3 => ParseT_c A1 56 c1 (tlB1 tlX) A2 20 c2 (tlB2 tlX) A3 22 c3 (tlB3 tlX) W h1 h2 h3 (by omega) (by omega) (by omega)
  rw [prT_same tlX_W] at hp1
  have hp2 := fun W A1 c1 A2 c2 A3 c3 h1 h2 h3 => ParseT_c A1 56 c1 (tlB1 tlX) A2 20 c2 (tlB2 tlX) A3 22 c3 (tlB3 tl0) W h1 h2 h3 (by omega) (by omega) (by omega)
  rw [prX_end] at hp2
  have hp3 := fun W A1 c1 A3 c3 h1 h3 => ParseT_c A1 56 c1 (tlB1 tlX) none 0 0 [] A3 22 c3 (tlB3 tlX) W h1 (RowIn.nil_ W) h3 (by omega) (by omega) (by omega)
  rw [prX_none] at hp3
  have hp4 := fun W A1 c1 A2 c2 A3 c3 h1 h2 h3 => ParseT_c A1 56 c1 (tlB1 tlX) A2 19 c2 ((tlB2 tlX).take 19) A3 22 c3 (tlB3 tlX) W h1 h2 h3 (by omega) (by omega) (by omega)
  rw [prX_cut] at hp4
  dsimp only at hp1 hp2 hp3 hp4
  rw [tlX_V] at hg1 hg2 hg3 hp1
  rw [tl0_V] at he0 hp2 hp3 hp4
  have HG1 := Lib.hid hg1
  have HG2 := Lib.hid hg2
  have HG3 := Lib.hid hg3
  have HE0 := Lib.hid he0
  have HP1 := Lib.hid hp1
  have HP2 := Lib.hid hp2
  have HP3 := Lib.hid hp3
  have HP4 := Lib.hid hp4
  clear hg1 hg2 hg3 he0 hp1 hp2 hp3 hp4
  have hK1 := Blk.new w 25 #[.int .u32 0, .int .u32 0, .int .u64 0, .int .u64 0, .int .u64 0, .int .u64 0, .int .u32 0, .int .u32 0, .int .u64 0]
  have hba := (Below.refl (w.alloc (.cells #[.int .u32 0, .int .u32 0, .int .u64 0, .int .u64 0, .int .u64 0, .int .u64 0, .int .u32 0, .int .u32 0, .int .u64 0] 25)).heap.size (w.alloc (.cells #[.int .u32 0, .int .u32 0, .int .u64 0, .int .u64 0, .int .u64 0, .int .u64 0, .int .u32 0, .int .u32 0, .int .u64 0] 25))).alloc (Nat.le_refl _) (.cells #[.int .u32 1, .int .u32 2, .int .u64 3, .int .u64 70000, .int .u64 5, .int .u64 6, .int .u32 7, .int .u32 8, .int .u64 9] 25)
  have HK1 := Lib.hid (hK1.below hK1.lt hba)
  have HK2 := Lib.hid (Blk.new (w.alloc (.cells #[.int .u32 0, .int .u32 0, .int .u64 0, .int .u64 0, .int .u64 0, .int .u64 0, .int .u32 0, .int .u32 0, .int .u64 0] 25)) 25 #[.int .u32 1, .int .u32 2, .int .u64 3, .int .u64 70000, .int .u64 5, .int .u64 6, .int .u32 7, .int .u32 8, .int .u64 9])
  have HL := Lib.hid (((Below.refl w.heap.size w).alloc (Nat.le_refl _) (.cells #[.int .u32 0, .int .u32 0, .int .u64 0, .int .u64 0, .int .u64 0, .int .u64 0, .int .u32 0, .int .u32 0, .int .u64 0] 25)).trans (hba.mono (by simp)))
  have HZ : Hid ((w.alloc (.cells #[.int .u32 0, .int .u32 0, .int .u64 0, .int .u64 0, .int .u64 0, .int .u64 0, .int .u32 0, .int .u32 0, .int .u64 0] 25)).heap.size = w.heap.size + 1) := by unfold Hid; simp
  clear hK1 hba
  go_enter Try.func8, Try.ntmps8
  go_wp2_with fail
  rw [← HZ.out]
  have HS : Hid (w.heap.size < (w.alloc (.cells #[.int .u32 0, .int .u32 0, .int .u64 0, .int .u64 0, .int .u64 0, .int .u64 0, .int .u32 0, .int .u32 0, .int .u64 0] 25)).heap.size) := by have := HZ.out; unfold Hid; omega
  clear HZ
  generalize (w.alloc (.cells #[.int .u32 0, .int .u32 0, .int .u64 0, .int .u64 0, .int .u64 0, .int .u64 0, .int .u32 0, .int .u32 0, .int .u64 0] 25)).alloc (.cells #[.int .u32 1, .int .u32 2, .int .u64 3, .int .u64 70000, .int .u64 5, .int .u64 6, .int .u32 7, .int .u32 8, .int .u64 9] 25) = W0 at *
  generalize (w.alloc (.cells #[.int .u32 0, .int .u32 0, .int .u64 0, .int .u64 0, .int .u64 0, .int .u64 0, .int .u32 0, .int .u32 0, .int .u64 0] 25)).heap.size = g2 at *
  obtain ⟨d0, d1, d2, d3, d4, d5, d6, d7, d8⟩ := elv9 HK2.out
  have lg2 := HK2.out.lt
  go_region_held3 (fun W' => W'.cell? ⟨g2, 0, none⟩ = some (.int .u32 1) ∧ W'.cell? ⟨g2, 1, none⟩ = some (.int .u32 2) ∧ W'.cell? ⟨g2, 2, none⟩ = some (.int .u64 3) ∧ W'.cell? ⟨g2, 3, none⟩ = some (.int .u64 70000) ∧ W'.cell? ⟨g2, 4, none⟩ = some (.int .u64 5) ∧ W'.cell? ⟨g2, 5, none⟩ = some (.int .u64 6) ∧ W'.cell? ⟨g2, 6, none⟩ = some (.int .u32 7) ∧ W'.cell? ⟨g2, 7, none⟩ = some (.int .u32 8) ∧ W'.cell? ⟨g2, 8, none⟩ = some (.int .u64 9)) (first
      | go_keep
      | (go_split_ands; exact ⟨(hba.cell (p := ⟨g2, 0, none⟩) (by first | exact lg2)).trans (by assumption), (hba.cell (p := ⟨g2, 1, none⟩) (by first | exact lg2)).trans (by assumption), (hba.cell (p := ⟨g2, 2, none⟩) (by first | exact lg2)).trans (by assumption), (hba.cell (p := ⟨g2, 3, none⟩) (by first | exact lg2)).trans (by assumption), (hba.cell (p := ⟨g2, 4, none⟩) (by first | exact lg2)).trans (by assumption), (hba.cell (p := ⟨g2, 5, none⟩) (by first | exact lg2)).trans (by assumption), (hba.cell (p := ⟨g2, 6, none⟩) (by first | exact lg2)).trans (by assumption), (hba.cell (p := ⟨g2, 7, none⟩) (by first | exact lg2)).trans (by assumption), (hba.cell (p := ⟨g2, 8, none⟩) (by first | exact lg2)).trans (by assumption)⟩)
      | (go_split_ands; exact ⟨(hbb.cell (p := ⟨g2, 0, none⟩) (by first | exact lg2 | exact Nat.lt_of_lt_of_le lg2 hba.size)).trans (by assumption), (hbb.cell (p := ⟨g2, 1, none⟩) (by first | exact lg2 | exact Nat.lt_of_lt_of_le lg2 hba.size)).trans (by assumption), (hbb.cell (p := ⟨g2, 2, none⟩) (by first | exact lg2 | exact Nat.lt_of_lt_of_le lg2 hba.size)).trans (by assumption), (hbb.cell (p := ⟨g2, 3, none⟩) (by first | exact lg2 | exact Nat.lt_of_lt_of_le lg2 hba.size)).trans (by assumption), (hbb.cell (p := ⟨g2, 4, none⟩) (by first | exact lg2 | exact Nat.lt_of_lt_of_le lg2 hba.size)).trans (by assumption), (hbb.cell (p := ⟨g2, 5, none⟩) (by first | exact lg2 | exact Nat.lt_of_lt_of_le lg2 hba.size)).trans (by assumption), (hbb.cell (p := ⟨g2, 6, none⟩) (by first | exact lg2 | exact Nat.lt_of_lt_of_le lg2 hba.size)).trans (by assumption), (hbb.cell (p := ⟨g2, 7, none⟩) (by first | exact lg2 | exact Nat.lt_of_lt_of_le lg2 hba.size)).trans (by assumption), (hbb.cell (p := ⟨g2, 8, none⟩) (by first | exact lg2 | exact Nat.lt_of_lt_of_le lg2 hba.size)).trans (by assumption)⟩)
      | (go_split_ands; exact ⟨(hbc.cell (p := ⟨g2, 0, none⟩) (by first | exact lg2 | exact Nat.lt_of_lt_of_le lg2 hba.size | exact Nat.lt_of_lt_of_le (Nat.lt_of_lt_of_le lg2 hba.size) hbb.size)).trans (by assumption), (hbc.cell (p := ⟨g2, 1, none⟩) (by first | exact lg2 | exact Nat.lt_of_lt_of_le lg2 hba.size | exact Nat.lt_of_lt_of_le (Nat.lt_of_lt_of_le lg2 hba.size) hbb.size)).trans (by assumption), (hbc.cell (p := ⟨g2, 2, none⟩) (by first | exact lg2 | exact Nat.lt_of_lt_of_le lg2 hba.size | exact Nat.lt_of_lt_of_le (Nat.lt_of_lt_of_le lg2 hba.size) hbb.size)).trans (by assumption), (hbc.cell (p := ⟨g2, 3, none⟩) (by first | exact lg2 | exact Nat.lt_of_lt_of_le lg2 hba.size | exact Nat.lt_of_lt_of_le (Nat.lt_of_lt_of_le lg2 hba.size) hbb.size)).trans (by assumption), (hbc.cell (p := ⟨g2, 4, none⟩) (by first | exact lg2 | exact Nat.lt_of_lt_of_le lg2 hba.size | exact Nat.lt_of_lt_of_le (Nat.lt_of_lt_of_le lg2 hba.size) hbb.size)).trans (by assumption), (hbc.cell (p := ⟨g2, 5, none⟩) (by first | exact lg2 | exact Nat.lt_of_lt_of_le lg2 hba.size | exact Nat.lt_of_lt_of_le (Nat.lt_of_lt_of_le lg2 hba.size) hbb.size)).trans (by assumption), (hbc.cell (p := ⟨g2, 6, none⟩) (by first | exact lg2 | exact Nat.lt_of_lt_of_le lg2 hba.size | exact Nat.lt_of_lt_of_le (Nat.lt_of_lt_of_le lg2 hba.size) hbb.size)).trans (by assumption), (hbc.cell (p := ⟨g2, 7, none⟩) (by first | exact lg2 | exact Nat.lt_of_lt_of_le lg2 hba.size | exact Nat.lt_of_lt_of_le (Nat.lt_of_lt_of_le lg2 hba.size) hbb.size)).trans (by assumption), (hbc.cell (p := ⟨g2, 8, none⟩) (by first | exact lg2 | exact Nat.lt_of_lt_of_le lg2 hba.size | exact Nat.lt_of_lt_of_le (Nat.lt_of_lt_of_le lg2 hba.size) hbb.size)).trans (by assumption)⟩))
      ((first
        | (go_at_call 10
           refine (HG1.out _).mono ?_
           rintro e wa ⟨A1, c1, rfl, ho1, hba⟩)
        | (go_at_call 12
           refine (HG2.out _).mono ?_
           rintro e wb ⟨A2, c2, rfl, ho2, hbb⟩)
        | (go_at_call 14
           refine (HG3.out _).mono ?_
           rintro e wc ⟨A3, c3, rfl, ho3, hbc⟩)))
  have AL1 : Hid (Al20 w wc w.heap.size g2 A1 c1 A2 c2 A3 c3) := by
    have b0 : Below W0.heap.size W0 wc := ((below_drewL (Below.refl W0.heap.size W0)).trans (hba.mono (Nat.le_refl _))).trans ((hbb.mono hba.size).trans (hbc.mono (Nat.le_trans hba.size hbb.size)))
    exact ⟨HK1.out.below HK1.out.lt b0, HK2.out.below HK2.out.lt b0, ((own_in ho1).below hbb).below hbc, (own_in ho2).below hbc, own_in ho3, HL.out.trans (b0.mono HL.out.size)⟩
  clear ho1 ho2 ho3 hba hbb hbc HK1 HK2 HL d0 d1 d2 d3 d4 d5 d6 d7 d8 lg2
  go_wp2_with fail
  refine (HP1.out _ _ _ _ _ _ _ AL1.out.r1 AL1.out.r2 AL1.out.r3).mono ?_
  rintro e W1 ⟨rfl, hb1⟩
  have AL2 := Lib.hid ((AL1.out.below hb1).alloc (.cells #[.int .u32 1, .int .u32 2, .int .u64 3, .int .u64 70000, .int .u64 5, .int .u64 6, .int .u32 7, .int .u32 8, .int .u64 9] 25))
  have HK6 := Lib.hid (Blk.new W1 25 #[.int .u32 1, .int .u32 2, .int .u64 3, .int .u64 70000, .int .u64 5, .int .u64 6, .int .u32 7, .int .u32 8, .int .u64 9])
  clear hb1 AL1
  have q0 := ld_tl AL2.out.b1 rfl
  go_wp2_with (with_reducible refine wpList_load_var _ _ (by with_unfolding_all rfl) q0 ?_)
  generalize W1.alloc (.cells #[.int .u32 1, .int .u32 2, .int .u64 3, .int .u64 70000, .int .u64 5, .int .u64 6, .int .u32 7, .int .u32 8, .int .u64 9] 25) = W2 at *
  generalize W1.heap.size = g6 at *
  refine (HE0.out _).mono ?_
  rintro e W3 ⟨A9, c9, rfl, ho9, hb3⟩
  have AL3 := Lib.hid (AL2.out.below hb3)
  have HK7 := Lib.hid (HK6.out.below HK6.out.lt hb3)
  have R9 := Lib.hid (own_in ho9)
  clear hb3 ho9 AL2 HK6 q0
  go_wp2_with fail
  refine (HP2.out _ _ _ _ _ _ _ AL3.out.r1 AL3.out.r2 R9.out).mono ?_
  rintro e W4 ⟨rfl, hb4⟩
  have AL4 := Lib.hid ((AL3.out.below hb4).alloc (.cells #[.int .u32 0, .int .u32 0, .int .u64 0, .int .u64 0, .int .u64 0, .int .u64 0, .int .u32 0, .int .u32 0, .int .u64 0] 25))
  have HK8 := Lib.hid ((HK7.out.below HK7.out.lt hb4).allocT (.cells #[.int .u32 0, .int .u32 0, .int .u64 0, .int .u64 0, .int .u64 0, .int .u64 0, .int .u32 0, .int .u32 0, .int .u64 0] 25))
  clear hb4 AL3 HK7 R9
  go_wp2_with fail
  refine (HP3.out _ _ _ _ _ AL4.out.r1 AL4.out.r3).mono ?_
  rintro e W5 ⟨rfl, hb5⟩
  have AL5 := Lib.hid ((AL4.out.below hb5).alloc (.cells #[.int .u32 0, .int .u32 0, .int .u64 0, .int .u64 0, .int .u64 0, .int .u64 0, .int .u32 0, .int .u32 0, .int .u64 0] 25))
  have HK9 := Lib.hid ((HK8.out.below HK8.out.lt hb5).allocT (.cells #[.int .u32 0, .int .u32 0, .int .u64 0, .int .u64 0, .int .u64 0, .int .u64 0, .int .u32 0, .int .u32 0, .int .u64 0] 25))
  clear hb5 AL4 HK8
  have i19 : (19 : Int) ≤ (c2 : Int) := by have := AL5.out.r2.le; omega
  go_wp2_with fail
  refine (HP4.out _ _ _ _ _ _ _ AL5.out.r1 ⟨AL5.out.r2.row.take (k := 19) (by omega), by have := AL5.out.r2.le; omega, AL5.out.r2.max⟩ AL5.out.r3).mono ?_
  rintro e W6 ⟨rfl, hb6⟩
  have AL6 := Lib.hid ((AL5.out.below hb6).alloc (.cells #[.int .u32 0, .int .u32 0, .int .u64 0, .int .u64 0, .int .u64 0, .int .u64 0, .int .u32 0, .int .u32 0, .int .u64 0] 25))
  have HK10 := Lib.hid ((HK9.out.below HK9.out.lt hb6).allocT (.cells #[.int .u32 0, .int .u32 0, .int .u64 0, .int .u64 0, .int .u64 0, .int .u64 0, .int .u32 0, .int .u32 0, .int .u64 0] 25))
  clear hb6 AL5 HK9 i19
  have q0 := ld_tl AL6.out.b1 rfl
  go_wp2_with (with_reducible refine wpList_load_var _ _ (by with_unfolding_all rfl) q0 ?_)
  refine (HE0.out _).mono ?_
  rintro e W7 ⟨A8, c8, rfl, ho8, hb7⟩
  have AL7 := Lib.hid (AL6.out.below hb7)
  have HK11 := Lib.hid (HK10.out.below HK10.out.lt hb7)
  have R8 := Lib.hid (own_in ho8)
  clear hb7 ho8 AL6 HK10 q0
  have i4 : (4 : Int) ≤ (c8 : Int) := by have := R8.out.le; omega
  have hcv := run_row_string c8 (R8.out.row.take (k := 4) (by omega))
  rw [show (nsB (tlP3 tl0)).take 4 = [ofN 80, ofN 75, ofN 5, ofN 6] from tl0_head, strB_head] at hcv
  obtain ⟨b3, o3, rfl, hl3, x10⟩ := AL7.out.r3.row.at_ (k := 10) (by omega)
  rw [tlX_c10] at x10
  rw [show ((ofN 255).n : Int) = 255 from rfl] at x10
  obtain ⟨e0, e1, e2, e3, e4, e5, e6, e7, e8⟩ := elv9 AL7.out.b2
  obtain ⟨f0, f1, f2, f3, f4, f5, f6, f7, f8⟩ := elv9 HK11.out
  have HBL := Lib.hid AL7.out.bel
  clear AL7 HK11 R8
  go_wp2
  go_ret
  exact ⟨rfl, HBL.out⟩
end Go.Proofs.Ythpgeehfmblbhaa
