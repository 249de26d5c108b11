/-
  LAW 13's WALK: MatchTwice: it returns true, and writes nothing that was there. No conditions.
-/
import Derived.Test.YtkjogejakenmeaaLaw13b
namespace Go.Proofs.Ytkjogejakenmeaa
open Go.RowKit
set_option maxRecDepth 1000000
set_option linter.unusedVariables false

theorem tkF_more {M K : Nat} (hMK : M ≤ K) {t : Tok} {o o2 : List F} (h : tkF M t o = .ok o2) : tkF K t o = .ok o2 := by
  unfold tkF at h ⊢
  by_cases h1 : t.len = 0
  · rw [if_pos h1] at h ⊢
    by_cases h2 : o.length < M
    · rw [if_pos h2] at h; rw [if_pos (by omega)]; exact h
    · rw [if_neg h2] at h; cases h
  · rw [if_neg h1] at h ⊢
    by_cases h2 : IsM t
    · rw [if_pos h2] at h ⊢
      by_cases h3 : o.length < t.dist.toNat
      · rw [if_pos h3] at h; cases h
      · rw [if_neg h3] at h ⊢
        rw [agL_eq] at h ⊢
        by_cases h6 : o.length + t.len.toNat ≤ M ∨ t.len.toNat = 0
        · rw [if_pos h6] at h; rw [if_pos (by omega)]; exact h
        · rw [if_neg h6] at h; cases h
    · rw [if_neg h2] at h; cases h
theorem exF_more {M K : Nat} (hMK : M ≤ K) : ∀ {T : List Tok} {o o2 : List F}, exF M T o = .ok o2 → exF K T o = .ok o2 := by
  intro T
  induction T with
  | nil => intro o o2 h; exact h
  | cons t r ih =>
    intro o o2 h
    change bndL (tkF M t o) (exF M r) = _ at h
    show bndL (tkF K t o) (exF K r) = _
    cases h1 : tkF M t o with
    | error e => rw [h1] at h; cases h
    | ok o3 =>
      rw [h1] at h
      rw [tkF_more hMK h1]
      exact ih h
theorem fdF_bys (l : List F) (lev : Nat) : bysF (fdF l lev) = l.length := by
  have := (exF_len (fdF_ok l lev).1).1
  simpa using this.symm
set_option maxHeartbeats 2000000 in
theorem walk_MatchTwice (w : World) (A : Option Addr) (n ca : Nat) (l : List F) (hl : RowIn w A n ca l) :
    Calls Try.prog 7 #[.slice A n ca] w fun e w' => e = .returned (.bool true) ∧ Below w.heap.size w w' := by
  obtain ⟨i0, hi, hz0, hz1, hz2⟩ := info_parts info_u8
  have hnm := hl.row.max
  have HAL := Lib.hid (alive13_c w)
  by_cases h1 : (300 : Int) < (n : Int)
  · go_enter Try.func7, Try.ntmps7
    go_wp2_with (go_at_call 8; refine HAL.out.mono ?_; rintro e w1 ⟨rfl, hb1⟩)
    go_ret
    exact ⟨rfl, hb1⟩
  have hn : n ≤ 300 := by omega
  have HL := Lib.hid hl
  have HLEN := Lib.hid hl.row.len
  have HLL : Hid ((l ++ l).length = n + n) := by unfold Hid; rw [List.length_append, HLEN.out]
  have HOK : Hid (exF 600 (fdF (l ++ l) 9) [] = .ok (l ++ l)) := exF_more (by have := HLL.out; omega) (fdF_ok (l ++ l) 9).1
  have HBY : Hid (bysF (fdF (l ++ l) 9) = n + n) := by unfold Hid; rw [fdF_bys, HLL.out]
  clear hl
  go_enter Try.func7, Try.ntmps7
  go_wp2_with fail
  refine HAL.out.mono ?_
  rintro e w1 ⟨rfl, hb1⟩
  have HB1 := Lib.hid hb1
  clear hb1
  go_wp2_with fail
  refine (Find_c A n ca l w1 (HL.out.below HB1.out) (by omega) 9 9 (by decide)).mono ?_
  rintro e w2 ⟨A2, c2, N, rfl, hN, hown, hb2⟩
  obtain ⟨ht, hNn⟩ := fd_row hown hN (by have := HLEN.out; omega)
  rw [HLEN.out] at hNn
  have HB2 := Lib.hid (HB1.out.trans (hb2.mono HB1.out.size))
  clear hN ht hown hb2
  go_wp2_with fail
  refine (Copy_c A n ca l w2 (HL.out.below HB2.out).row (by omega)).mono ?_
  rintro e w3 ⟨A3, c3, rfl, hown3, hb3⟩
  have HO3 := Lib.hid hown3
  have HB3 := Lib.hid (HB2.out.trans (hb3.mono HB2.out.size))
  have HB23 := Lib.hid hb3
  clear hown3 hb3
  go_wp2_with (at_builtin; refine wpList_append_row i0 hi hz0 hz1 hz2 rfl _ _ rfl w2.heap.size (.slice A3 n c3) n (cs l) rfl HO3.out A n ca l rfl (HL.out.below HB3.out).row (by omega) HB23.out.size ?_; intro v4 w4 hL4; obtain ⟨A4, c4, rfl, hown4, hg4, hnw4⟩ := hL4)
  have hb4 : Below w2.heap.size w2 w4 := HB23.out.grown hg4 HB23.out.size (fun g hg => (HO3.out.lt g hg).1)
  rw [← cs_append] at hown4
  have HO4 := Lib.hid hown4
  have HB4 := Lib.hid (HB2.out.trans (hb4.mono HB2.out.size))
  clear hown4 hg4 hnw4 hb4
  refine (Find_c A4 (n + n) c4 (l ++ l) w4 (own_in HO4.out) (by omega) 9 9 (by decide)).mono ?_
  rintro e w5 ⟨A5, c5, N5, rfl, hN5, hown5, hb5⟩
  obtain ⟨ht5, hNn5⟩ := fd_row hown5 hN5 (by have := HLL.out; omega)
  rw [HLL.out] at hNn5
  have HT5 := Lib.hid ht5
  have HB5 := Lib.hid (HB4.out.trans (hb5.mono HB4.out.size))
  clear hN5 ht5 hown5 hb5
  go_wp2_with fail
  refine (RExp_c A5 N5 c5 (fdF (l ++ l) 9) w5 HT5.out (by omega) 600 600 (by decide) (by omega)).mono ?_
  rintro e w6 (⟨z, g1, _⟩ | ⟨o, A6, n6, c6, g1, g2, rfl, g3, g4⟩)
  · have := HOK.out
    rw [g1] at this; cases this
  have g5 : o = l ++ l := by
    have := HOK.out
    rw [g1] at this
    injection this
  subst g5
  rw [HLL.out] at g2
  subst g2
  obtain ⟨hc6, hm6⟩ := own_cap g3
  have HO6 := Lib.hid (own_in g3)
  have HB6 := Lib.hid (HB5.out.trans (g4.mono HB5.out.size))
  have HT6 := Lib.hid (HT5.out.below g4)
  clear g1 g3 g4
  have hnc : (n : Int) ≤ (c6 : Int) := by omega
  have hnn : (n : Int) ≤ ((n + n : Nat) : Int) := by omega
  have heq : (((n + n : Nat) : Int) == 2 * (n : Int)) = true := by rw [beq_iff_eq]; omega
  have et : (l ++ l).take n = l := List.take_left' HLEN.out
  have HR1 : Hid (Row w6 A6 n l) := by
    have := HO6.out.row.take (k := n) (by omega)
    rw [et] at this
    exact this
  have hsl := HO6.out.slice (a := n) (M := n + n) (by omega) (Nat.le_refl _)
  have ed : ((l ++ l).drop n).take (n + n - n) = l := by
    rw [List.drop_left' HLEN.out]
    exact List.take_of_length_le (by rw [HLEN.out]; omega)
  rw [ed] at hsl
  have HSL := Lib.hid hsl
  clear hsl et ed
  have hNn2 : (N : Int) ≤ (n : Int) := by omega
  by_cases hcs : c6 = n
  · obtain rfl : n = 0 := by omega
    have HR2 := Lib.hid (HSL.out.1 hcs)
    clear HSL
    go_wp2_with fail
    refine (Same_c A6 A 0 _ ca l l w6 HR1.out (HL.out.below HB6.out).row rfl).mono ?_
    rintro e w7 ⟨rfl, q7, rfl⟩
    have HB7 := Lib.hid (below_drewN HB6.out q7)
    have HR3 : Hid (Row (w6.drewN q7) A6 0 l) := HR2.out.row.below (below_drewN (Below.refl _ w6) q7)
    have HT7 := Lib.hid (HT6.out.below (below_drewN (Below.refl _ w6) q7))
    generalize w6.drewN q7 = w7 at *
    clear HR2
    go_wp2_with fail
    refine (Same_c A6 A 0 _ ca l l w7 HR3.out (HL.out.below HB7.out).row rfl).mono ?_
    rintro e w8 ⟨rfl, q8, rfl⟩
    have HB8 := Lib.hid (below_drewN HB7.out q8)
    have HT8 := Lib.hid (HT7.out.below (below_drewN (Below.refl _ w7) q8))
    generalize w7.drewN q8 = w8 at *
    go_wp2_with fail
    refine (MBytes_c _ N5 c5 _ w8 HT8.out (by omega)).mono ?_
    rintro e w9 ⟨rfl, hb9⟩
    rw [HBY.out]
    have HB9 := Lib.hid (HB8.out.trans (hb9.mono HB8.out.size))
    clear hb9
    go_wp2
    go_ret
    exact ⟨rfl, HB9.out⟩
  · have HR2 := Lib.hid (HSL.out.2 hcs)
    clear HSL
    have hsub : n + n - n = n := by omega
    rw [hsub] at HR2
    go_wp2_with fail
    refine (Same_c A6 A n _ ca l l w6 HR1.out (HL.out.below HB6.out).row rfl).mono ?_
    rintro e w7 ⟨rfl, q7, rfl⟩
    have HB7 := Lib.hid (below_drewN HB6.out q7)
    have HR3 : Hid (Row (w6.drewN q7) _ n l) := HR2.out.row.below (below_drewN (Below.refl _ w6) q7)
    have HT7 := Lib.hid (HT6.out.below (below_drewN (Below.refl _ w6) q7))
    generalize w6.drewN q7 = w7 at *
    clear HR2
    go_wp2_with fail
    refine (Same_c _ A n _ ca l l w7 HR3.out (HL.out.below HB7.out).row rfl).mono ?_
    rintro e w8 ⟨rfl, q8, rfl⟩
    have HB8 := Lib.hid (below_drewN HB7.out q8)
    have HT8 := Lib.hid (HT7.out.below (below_drewN (Below.refl _ w7) q8))
    generalize w7.drewN q8 = w8 at *
    go_wp2_with fail
    refine (MBytes_c _ N5 c5 _ w8 HT8.out (by omega)).mono ?_
    rintro e w9 ⟨rfl, hb9⟩
    rw [HBY.out]
    have HB9 := Lib.hid (HB8.out.trans (hb9.mono HB8.out.size))
    clear hb9
    go_wp2
    go_ret
    exact ⟨rfl, HB9.out⟩
end Go.Proofs.Ytkjogejakenmeaa
