/-
  LAW 14: BlockWrites. No conditions (but that the tables lie as the program's text lays them). WRITTEN by wip/gen14f.py.
-/
import Derived.Test.YthnbflkoipnakaaGreatDoorLaw14d
namespace Go.Proofs.YthnbflkoipnakaaGreatDoor
open Go.RowKit
set_option maxRecDepth 1000000
set_option linter.unusedVariables false

theorem own_row_len {w : World} {base n c : Nat} {A : Option Addr} {X : List Bool} (h : w.ownsRow base 5 1 (.slice A n c) n (cs (bc X))) : n = X.length := by
  have := (Row.of_own h).len
  rw [bc_length] at this
  exact this.symm
/-- a new writer with so many bits, and these, apart from it -/
theorem begin14_d (w : World) (n : Nat) (hn : n ≤ 15) :
    Calls Tryz.prog 9 #[.int .i64 n] w fun e w' => ∃ q A len cap B c, e = .returned (.tuple #[.pointer (some ⟨q, 0, none⟩), .slice B n c]) ∧ Wr w' q A len cap n (putB 5 n) ∧ w.heap.size ≤ q ∧ Row w' B n (bc (putB 5 n)) ∧ (∀ b o, B = some ⟨b, o, none⟩ → b ≠ q ∧ (Value.slice A len cap).ownBlock ≠ some b) ∧ Below w.heap.size w w' := by
  have h32 : heldN (n : Int) 32 = n := by unfold heldN; omega
  have HW0 := Lib.hid (Wr.fresh w #[.slice none 0 0, .int .i64 0] rfl)
  have HB0 : Hid (Below w.heap.size w (w.alloc (.cells #[.slice none 0 0, .int .i64 0] 48))) := (Below.refl _ _).alloc (Nat.le_refl _) _
  go_enter Tryz.func9, Tryz.ntmps9
  go_wp2_with fail
  refine (PutB_c HW0.out 5 (by omega) (n : Int) (by omega)).mono ?_
  rintro e w1 ⟨rfl, A, len, cap, hW, hO⟩
  rw [h32, List.nil_append, Nat.zero_add] at hW
  have HW1 := Lib.hid hW
  have HB1 := Lib.hid (HW0.out.keeps hO HB0.out (Nat.le_refl _))
  clear hW hO HW0 HB0
  go_wp2_with fail
  refine (RefPutB_c none 0 0 [] w1 (Row.nil w1 none) (by omega) 5 (by omega) (n : Int)).mono ?_
  rintro e w2 ⟨B, c, rfl, hown, hb⟩
  rw [h32, Nat.zero_add, List.nil_append] at hown
  have HW2 := Lib.hid (HW1.out.below hb)
  have HR2 := Lib.hid (Row.of_own hown)
  have HN2 : Hid (∀ b o, B = some ⟨b, o, none⟩ → b ≠ w.heap.size ∧ (Value.slice A len cap).ownBlock ≠ some b) := fun b o e => by
    subst e
    have h1 := (hown.lt b rfl).1
    have h2 := HW1.out.lt
    exact ⟨by omega, fun h => by have := (HW1.out.own.lt b h).2; omega⟩
  have HB2 := Lib.hid (HB1.out.trans (hb.mono HB1.out.size))
  clear hown hb HB1 HW1
  rw [h32, Nat.zero_add]
  go_wp2
  go_ret2
  exact ⟨_, A, len, cap, B, c, rfl, HW2.out, Nat.le_refl _, HR2.out, HN2.out, HB2.out⟩
set_option maxHeartbeats 1500000 in
theorem writes_short (w : World) (ht : Tabs w) (at_ : Int) (B : Option Addr) (m cb : Nat) (l : List F) (hl : RowIn w B m cb l) (C : Option Addr) (n c : Nat) (T : List Tok) (hT : TRow w C n T) (hn : n ≤ 60) (last : Bool) (hm : m ≤ 200) :
    Calls Tryz.prog 3 #[.int .i64 at_, .slice B m cb, .slice C n c, .bool last] w fun e w' => e = .returned (.bool true) ∧ Below w.heap.size w w' := by
  have hm0 : ¬ (200 : Int) < (m : Int) := by omega
  have hm1 : ¬ (70000 : Int) < (m : Int) := by omega
  have hm2 : ¬ (65535 : Int) < (m : Int) := by omega
  have HT0 := Lib.hid ht
  have HL0 := Lib.hid hl
  have HC0 := Lib.hid hT
  have HLN := Lib.hid hl.row.len
  have hokl := okF_le T
  rw [hT.len] at hokl
  have HOKL := Lib.hid hokl
  obtain ⟨a, ha⟩ : ∃ a : Nat, at_ % 16 = (a : Int) := ⟨(at_ % 16).toNat, by omega⟩
  have ha15 : a ≤ 15 := by omega
  have hand : bits .and .i64 at_ 15 = (a : Int) := by
    have := andLow at_ 4 (by decide)
    rw [show (15 : Int) = ((2 ^ 4 - 1 : Nat) : Int) from rfl, this]
    omega
  have hn2 : ¬ (60 : Int) < (n : Int) := by omega
  clear ht hl hT ha hokl
  go_enter Tryz.func3, Tryz.ntmps3
  go_wp2_with fail
  refine (alive14_c w HT0.out).mono ?_
  rintro e w1 ⟨rfl, hb1⟩
  have HT1 := Lib.hid (HT0.out.below hb1)
  have HL1 := Lib.hid (HL0.out.below hb1)
  have HC1 := Lib.hid (HC0.out.below hb1)
  have B1 := Lib.hid hb1
  clear hb1 HT0 HL0 HC0
  go_wp2_with fail
  refine (begin14_d w1 a ha15).mono ?_
  rintro e w2 ⟨q, A2, len2, cap2, X2, cx2, rfl, hW2, hq2, hX2, hN2, hb2⟩
  have HW2 := Lib.hid hW2
  have HX2 := Lib.hid hX2
  have HN2 := Lib.hid hN2
  have B2 := Lib.hid hb2
  clear hW2 hX2 hN2 hb2
  go_wp2_with fail
  refine (Stored_c HW2.out B m cb l HL1.out B2.out hq2 (by omega) last (by omega)).mono ?_
  rintro e w3 ⟨rfl, A3, len3, cap3, m3, hW3, hO3⟩
  have B3 := Lib.hid (HW2.out.keeps hO3 B2.out hq2)
  have HX3 := Lib.hid (HX2.out.wout hO3 HN2.out)
  have HW3 := Lib.hid hW3
  have HL3 := Lib.hid (HL1.out.below B3.out)
  clear hW3 hO3 HW2 HX2 HN2 B2
  go_wp2_with fail
  refine (RStored_c X2 a cx2 (putB 5 a) w3 HX3.out (by omega) B m cb l HL3.out.row (by omega) last).mono ?_
  rintro e w4 ⟨A4, c4, n4, rfl, hown4, hb4⟩
  have hn4 := own_row_len hown4
  have hm3 := HW3.out.hn.out
  have hsl := stoB_length (putB 5 a) l last (by rw [HLN.out]; omega)
  rw [putB_length, HLN.out] at hsl
  obtain ⟨s, hs0, hs1, hs2, hs3⟩ := stb_eq m (a % 8) (by omega) (by omega)
  have HSB := Lib.hid (fun W => StoredBits_c (m : Int) ((a % 8 : Nat) : Int) W)
  rw [hs0] at hsl HSB
  rw [← hn4] at hsl
  rw [← hn4] at hm3
  subst hm3
  have B4 := Lib.hid (B3.out.trans (hb4.mono B3.out.size))
  have HW4 := Lib.hid (HW3.out.below hb4)
  have HX4 := Lib.hid (HX3.out.below hb4)
  have HL4 := Lib.hid (HL3.out.below hb4)
  have p1 : (m3 : Int) - (a : Int) = (s : Int) := by omega
  have hYl : m3 ≤ 100000 := by omega
  clear hown4 hb4 HW3 HX3 HL3 B3 hs0 hs1 hs2 hs3 hsl
  go_wp2_with fail
  refine (HSB.out w4).mono ?_
  rintro e _ ⟨rfl, rfl⟩
  go_wp2_with fail
  refine (RStored_c X2 a cx2 (putB 5 a) w4 HX4.out (by omega) B m cb l HL4.out.row (by omega) last).mono ?_
  rintro e w5 ⟨A5, c5, n5, rfl, hown5, hb5⟩
  have hn5 := own_row_len hown5
  rw [← hn4] at hn5
  subst hn5
  have hY0 : ∃ Y, Y = stoB (putB 5 a) l last := ⟨_, rfl⟩
  obtain ⟨Y, hY⟩ := hY0
  rw [← hY] at hown5
  have HW5 : Hid (Wr w5 q A3 len3 cap3 n5 Y) := by unfold Hid; rw [hY]; exact HW4.out.below hb5
  have HX5 := Lib.hid (Row.of_own hown5)
  have B5 := Lib.hid (B4.out.trans (hb5.mono B4.out.size))
  clear hY hn4 hown5 hb5 HW4 HX4 HL4 B4 HSB p1
  have hlen5 : Hid ((n5 + 7) / 8 = len3) := by unfold Hid; rw [HW5.out.hl.out, ← HW5.out.hn.out]
  have hrf : ((n5 : Int) != (n5 : Int)) = false := by simp
  go_wp2_with fail
  refine (LenB_c HW5.out).mono ?_
  rintro e _ ⟨rfl, rfl⟩
  go_wp2_with fail
  refine (DoneB_c HW5.out).mono ?_
  rintro e w6 ⟨A6, c6, rfl, hown6, hb6⟩
  have HX6 := Lib.hid (HX5.out.below hb6)
  have HO6 := Lib.hid (Row.of_own hown6)
  have B6 := Lib.hid (B5.out.trans (hb6.mono B5.out.size))
  clear hown6 hb6 HX5 HW5 B5
  go_wp2_with fail
  refine (RefPack_c _ _ _ Y w6 HX6.out (by omega)).mono ?_
  rintro e w7 ⟨A7, c7, n7, rfl, hn7, hown7, hb7⟩
  obtain rfl := hn7.out.trans hlen5.out
  have HO7 := Lib.hid (HO6.out.below hb7)
  have HP7 := Lib.hid (Row.of_own hown7)
  have B7 := Lib.hid (B6.out.trans (hb7.mono B6.out.size))
  clear hown7 hb7 HX6 HO6 B6 hn7 hlen5
  go_wp2_with fail
  refine (Same_c _ _ _ _ _ _ _ w7 HO7.out HP7.out rfl).mono ?_
  rintro e _ ⟨rfl, q8, rfl⟩
  have B8 := Lib.hid (below_drewN B7.out q8)
  generalize w7.drewN q8 = w8 at *
  clear HO7 HP7 B7 hrf
  have HT8 := Lib.hid (HT1.out.below B8.out)
  have HC8 := Lib.hid (HC1.out.below B8.out)
  go_wp2_with fail
  refine (begin14_d w8 a ha15).mono ?_
  rintro e w9 ⟨r, A9, len9, cap9, X9, cx9, rfl, hW9, hr9, hX9, hN9, hb9⟩
  have HW9 := Lib.hid hW9
  have HX9 := Lib.hid hX9
  have HN9 := Lib.hid hN9
  have B9 := Lib.hid hb9
  clear hW9 hX9 hN9 hb9
  have haa : ((a : Int) == (a : Int)) = true := by simp
  by_cases hok : okF T = n
  · go_wp2_with fail
    refine (FixedB_c HW9.out B9.out hr9 HT8.out C n c T HC8.out (by omega) hok last (by omega)).mono ?_
    rintro e w10 ⟨rfl, A10, len10, cap10, m10, hW10, hO10⟩
    have B10 := Lib.hid (HW9.out.keeps hO10 B9.out hr9)
    have HX10 := Lib.hid (HX9.out.wout hO10 HN9.out)
    have HW10 := Lib.hid hW10
    clear hW10 hO10 HW9 HX9 HN9 B9
    have hrr := RRight_c C n c T w10 (HC8.out.below B10.out) (by omega)
    rw [decide_eq_true hok] at hrr
    have HRR := Lib.hid hrr
    clear hrr
    go_wp2_with fail
    refine HRR.out.mono ?_
    rintro e w11 ⟨rfl, hb11⟩
    have B11 := Lib.hid (B10.out.trans (hb11.mono B10.out.size))
    have HX11 := Lib.hid (HX10.out.below hb11)
    have HW11 := Lib.hid (HW10.out.below hb11)
    clear hb11 B10 HX10 HW10 HRR
    go_wp2_with fail
    refine (RFixed_c X9 a cx9 (putB 5 a) w11 HX11.out (by omega) C n c T (HC8.out.below B11.out) (by omega) hok last).mono ?_
    rintro e w12 ⟨A12, c12, n12, rfl, hle12, hown12, hb12⟩
    have hle12 := hle12.out
    have hn12 := own_row_len hown12
    have hm10 := HW11.out.hn.out
    rw [← hn12] at hm10
    subst hm10
    have hfew := HW11.out.few
    have h8 := HW11.out.at8
    have B12 := Lib.hid (B11.out.trans (hb12.mono B11.out.size))
    have HW12 := Lib.hid (HW11.out.below hb12)
    have HX12 := Lib.hid (Row.of_own hown12)
    have hlen12 : Hid ((m10 + 7) / 8 = len10) := by unfold Hid; rw [HW12.out.hl.out, ← HW12.out.hn.out]
    rw [List.length_append, putB_length, fixB_length] at hn12
    have hF := fun W (h : Below w8.heap.size w8 W) => FixedBits_c W (HT8.out.below h) C n c T (HC8.out.below h) (by omega) hok
    rw [fixB_length] at hF
    generalize 10 + (toksB fixL fixD T).length = L at *
    have HF := Lib.hid hF
    generalize putB 5 a ++ fixB T last = Z at *
    have p2 : (m10 : Int) - (a : Int) = (L : Int) := by omega
    have hmm : ((m10 : Int) == (m10 : Int)) = true := by simp
    have hLL : ((L : Int) == (L : Int)) = true := by simp
    clear hown12 hb12 B11 HW11 HX11 hF hn12
    go_wp2_with fail
    refine (LenB_c HW12.out).mono ?_
    rintro e _ ⟨rfl, rfl⟩
    go_wp2_with fail
    refine (DoneB_c HW12.out).mono ?_
    rintro e w13 ⟨A13, c13, rfl, hown13, hb13⟩
    have HX13 := Lib.hid (HX12.out.below hb13)
    have HO13 := Lib.hid (Row.of_own hown13)
    have B13 := Lib.hid (B12.out.trans (hb13.mono B12.out.size))
    clear hown13 hb13 HX12 HW12 B12
    go_wp2_with fail
    refine (RefPack_c _ _ _ Z w13 HX13.out (by omega)).mono ?_
    rintro e w14 ⟨A14, c14, n14, rfl, hn14, hown14, hb14⟩
    obtain rfl := hn14.out.trans hlen12.out
    have HO14 := Lib.hid (HO13.out.below hb14)
    have HP14 := Lib.hid (Row.of_own hown14)
    have B14 := Lib.hid (B13.out.trans (hb14.mono B13.out.size))
    clear hown14 hb14 HX13 HO13 B13 hn14 hlen12
    go_wp2_with fail
    refine (Same_c _ _ _ _ _ _ _ w14 HO14.out HP14.out rfl).mono ?_
    rintro e _ ⟨rfl, q15, rfl⟩
    have B15 := Lib.hid (below_drewN B14.out q15)
    generalize w14.drewN q15 = w15 at *
    clear HO14 HP14 B14
    go_wp2_with fail
    refine (HF.out w15 B15.out).mono ?_
    rintro e w16 ⟨rfl, hb16⟩
    have B16 := Lib.hid (B15.out.trans (hb16.mono B15.out.size))
    clear hb16 B15
    go_wp2
    go_ret
    exact ⟨rfl, B1.out.trans ((B8.out.trans (B16.out.mono B8.out.size)).mono B1.out.size)⟩
  · have hokn : okF T < n := by have := HOKL.out; omega
    go_wp2_with fail
    refine (FixedB_wrong w9 r C n c T (HC8.out.below B9.out) (by omega) hokn last).mono ?_
    rintro e w10 ⟨rfl, hb10⟩
    have B10 := Lib.hid (B9.out.trans (hb10.mono B9.out.size))
    have HW10 := Lib.hid (HW9.out.below hb10)
    clear hb10 HW9 HX9 HN9 B9
    have hrr := RRight_c C n c T w10 (HC8.out.below B10.out) (by omega)
    rw [decide_eq_false hok] at hrr
    have HRR := Lib.hid hrr
    clear hrr
    go_wp2_with fail
    refine HRR.out.mono ?_
    rintro e w11 ⟨rfl, hb11⟩
    have B11 := Lib.hid (B10.out.trans (hb11.mono B10.out.size))
    have HW11 := Lib.hid (HW10.out.below hb11)
    clear hb11 B10 HW10 HRR
    go_wp2_with fail
    refine (LenB_c HW11.out).mono ?_
    rintro e _ ⟨rfl, rfl⟩
    go_wp2_with fail
    refine (FixedBits_wrong w11 C n c T (HC8.out.below B11.out) (by omega) hokn).mono ?_
    rintro e w12 ⟨rfl, hb12⟩
    have B12 := Lib.hid (B11.out.trans (hb12.mono B11.out.size))
    have HW12 := Lib.hid (HW11.out.below hb12)
    clear hb12 B11 HW11
    go_wp2_with fail
    refine (Dynamic_wrong w12 r C n c T (HC8.out.below B12.out) (by omega) hokn last).mono ?_
    rintro e w13 ⟨rfl, hb13⟩
    have B13 := Lib.hid (B12.out.trans (hb13.mono B12.out.size))
    have HW13 := Lib.hid (HW12.out.below hb13)
    clear hb13 B12 HW12
    go_wp2_with fail
    refine (LenB_c HW13.out).mono ?_
    rintro e _ ⟨rfl, rfl⟩
    go_wp2
    go_ret
    exact ⟨rfl, B1.out.trans ((B8.out.trans (B13.out.mono B8.out.size)).mono B1.out.size)⟩
set_option maxHeartbeats 1500000 in
theorem writes_long (w : World) (ht : Tabs w) (at_ : Int) (B : Option Addr) (m cb : Nat) (l : List F) (hl : RowIn w B m cb l) (C : Option Addr) (n c : Nat) (T : List Tok) (hT : TRow w C n T) (hn : n ≤ 60) (last : Bool) (hm : 65535 < m) (hm7 : m ≤ 70000) :
    Calls Tryz.prog 3 #[.int .i64 at_, .slice B m cb, .slice C n c, .bool last] w fun e w' => e = .returned (.bool true) ∧ Below w.heap.size w w' := by
  have hm0 : (200 : Int) < (m : Int) := by omega
  have hm1 : ¬ (70000 : Int) < (m : Int) := by omega
  have hm2 : (65535 : Int) < (m : Int) := by omega
  have hm3 : ¬ (m : Int) ≤ 65535 := by omega
  have HT0 := Lib.hid ht
  have HL0 := Lib.hid hl
  have HC0 := Lib.hid hT
  have HLN := Lib.hid hl.row.len
  have hokl := okF_le T
  rw [hT.len] at hokl
  have HOKL := Lib.hid hokl
  obtain ⟨a, ha⟩ : ∃ a : Nat, at_ % 16 = (a : Int) := ⟨(at_ % 16).toNat, by omega⟩
  have ha15 : a ≤ 15 := by omega
  have hand : bits .and .i64 at_ 15 = (a : Int) := by
    have := andLow at_ 4 (by decide)
    rw [show (15 : Int) = ((2 ^ 4 - 1 : Nat) : Int) from rfl, this]
    omega
  have hn2 : ¬ (60 : Int) < (n : Int) := by omega
  clear ht hl hT ha hokl
  go_enter Tryz.func3, Tryz.ntmps3
  go_wp2_with fail
  refine (alive14_c w HT0.out).mono ?_
  rintro e w1 ⟨rfl, hb1⟩
  have HT1 := Lib.hid (HT0.out.below hb1)
  have HL1 := Lib.hid (HL0.out.below hb1)
  have HC1 := Lib.hid (HC0.out.below hb1)
  have B1 := Lib.hid hb1
  clear hb1 HT0 HL0 HC0
  go_wp2_with fail
  refine (begin14_d w1 a ha15).mono ?_
  rintro e w2 ⟨q, A2, len2, cap2, X2, cx2, rfl, hW2, hq2, hX2, hN2, hb2⟩
  have HW2 := Lib.hid hW2
  have HX2 := Lib.hid hX2
  have HN2 := Lib.hid hN2
  have B2 := Lib.hid hb2
  clear hW2 hX2 hN2 hb2
  go_wp2_with fail
  refine (Stored_long (some ⟨q, 0, none⟩) B m cb w2 last (by omega) (by omega)).mono ?_
  rintro e _ ⟨rfl, rfl⟩
  have hY0 : ∃ Y, Y = putB 5 a := ⟨_, rfl⟩
  obtain ⟨Y, hY⟩ := hY0
  have HW5 : Hid (Wr w2 q A2 len2 cap2 a Y) := by unfold Hid; rw [hY]; exact HW2.out
  have HX5 : Hid (Row w2 X2 a (bc Y)) := by unfold Hid; rw [hY]; exact HX2.out
  have B5 := B2
  have hYl : a ≤ 100000 := by omega
  clear hY HW2 HX2 HN2 B2
  have hlen5 : Hid ((a + 7) / 8 = len2) := by unfold Hid; rw [HW5.out.hl.out, ← HW5.out.hn.out]
  have hrf : ((a : Int) != (a : Int)) = false := by simp
  go_wp2_with fail
  refine (LenB_c HW5.out).mono ?_
  rintro e _ ⟨rfl, rfl⟩
  go_wp2_with fail
  refine (DoneB_c HW5.out).mono ?_
  rintro e w6 ⟨A6, c6, rfl, hown6, hb6⟩
  have HX6 := Lib.hid (HX5.out.below hb6)
  have HO6 := Lib.hid (Row.of_own hown6)
  have B6 := Lib.hid (B5.out.trans (hb6.mono B5.out.size))
  clear hown6 hb6 HX5 HW5 B5
  go_wp2_with fail
  refine (RefPack_c _ _ _ Y w6 HX6.out (by omega)).mono ?_
  rintro e w7 ⟨A7, c7, n7, rfl, hn7, hown7, hb7⟩
  obtain rfl := hn7.out.trans hlen5.out
  have HO7 := Lib.hid (HO6.out.below hb7)
  have HP7 := Lib.hid (Row.of_own hown7)
  have B7 := Lib.hid (B6.out.trans (hb7.mono B6.out.size))
  clear hown7 hb7 HX6 HO6 B6 hn7 hlen5
  go_wp2_with fail
  refine (Same_c _ _ _ _ _ _ _ w7 HO7.out HP7.out rfl).mono ?_
  rintro e _ ⟨rfl, q8, rfl⟩
  have B8 := Lib.hid (below_drewN B7.out q8)
  generalize w7.drewN q8 = w8 at *
  clear HO7 HP7 B7 hrf
  have HT8 := Lib.hid (HT1.out.below B8.out)
  have HC8 := Lib.hid (HC1.out.below B8.out)
  go_wp2_with fail
  refine (begin14_d w8 a ha15).mono ?_
  rintro e w9 ⟨r, A9, len9, cap9, X9, cx9, rfl, hW9, hr9, hX9, hN9, hb9⟩
  have HW9 := Lib.hid hW9
  have HX9 := Lib.hid hX9
  have HN9 := Lib.hid hN9
  have B9 := Lib.hid hb9
  clear hW9 hX9 hN9 hb9
  have haa : ((a : Int) == (a : Int)) = true := by simp
  by_cases hok : okF T = n
  · go_wp2_with fail
    refine (FixedB_c HW9.out B9.out hr9 HT8.out C n c T HC8.out (by omega) hok last (by omega)).mono ?_
    rintro e w10 ⟨rfl, A10, len10, cap10, m10, hW10, hO10⟩
    have B10 := Lib.hid (HW9.out.keeps hO10 B9.out hr9)
    have HX10 := Lib.hid (HX9.out.wout hO10 HN9.out)
    have HW10 := Lib.hid hW10
    clear hW10 hO10 HW9 HX9 HN9 B9
    have hrr := RRight_c C n c T w10 (HC8.out.below B10.out) (by omega)
    rw [decide_eq_true hok] at hrr
    have HRR := Lib.hid hrr
    clear hrr
    go_wp2_with fail
    refine HRR.out.mono ?_
    rintro e w11 ⟨rfl, hb11⟩
    have B11 := Lib.hid (B10.out.trans (hb11.mono B10.out.size))
    have HX11 := Lib.hid (HX10.out.below hb11)
    have HW11 := Lib.hid (HW10.out.below hb11)
    clear hb11 B10 HX10 HW10 HRR
    go_wp2_with fail
    refine (RFixed_c X9 a cx9 (putB 5 a) w11 HX11.out (by omega) C n c T (HC8.out.below B11.out) (by omega) hok last).mono ?_
    rintro e w12 ⟨A12, c12, n12, rfl, hle12, hown12, hb12⟩
    have hle12 := hle12.out
    have hn12 := own_row_len hown12
    have hm10 := HW11.out.hn.out
    rw [← hn12] at hm10
    subst hm10
    have hfew := HW11.out.few
    have h8 := HW11.out.at8
    have B12 := Lib.hid (B11.out.trans (hb12.mono B11.out.size))
    have HW12 := Lib.hid (HW11.out.below hb12)
    have HX12 := Lib.hid (Row.of_own hown12)
    have hlen12 : Hid ((m10 + 7) / 8 = len10) := by unfold Hid; rw [HW12.out.hl.out, ← HW12.out.hn.out]
    rw [List.length_append, putB_length, fixB_length] at hn12
    have hF := fun W (h : Below w8.heap.size w8 W) => FixedBits_c W (HT8.out.below h) C n c T (HC8.out.below h) (by omega) hok
    rw [fixB_length] at hF
    generalize 10 + (toksB fixL fixD T).length = L at *
    have HF := Lib.hid hF
    generalize putB 5 a ++ fixB T last = Z at *
    have p2 : (m10 : Int) - (a : Int) = (L : Int) := by omega
    have hmm : ((m10 : Int) == (m10 : Int)) = true := by simp
    have hLL : ((L : Int) == (L : Int)) = true := by simp
    clear hown12 hb12 B11 HW11 HX11 hF hn12
    go_wp2_with fail
    refine (LenB_c HW12.out).mono ?_
    rintro e _ ⟨rfl, rfl⟩
    go_wp2_with fail
    refine (DoneB_c HW12.out).mono ?_
    rintro e w13 ⟨A13, c13, rfl, hown13, hb13⟩
    have HX13 := Lib.hid (HX12.out.below hb13)
    have HO13 := Lib.hid (Row.of_own hown13)
    have B13 := Lib.hid (B12.out.trans (hb13.mono B12.out.size))
    clear hown13 hb13 HX12 HW12 B12
    go_wp2_with fail
    refine (RefPack_c _ _ _ Z w13 HX13.out (by omega)).mono ?_
    rintro e w14 ⟨A14, c14, n14, rfl, hn14, hown14, hb14⟩
    obtain rfl := hn14.out.trans hlen12.out
    have HO14 := Lib.hid (HO13.out.below hb14)
    have HP14 := Lib.hid (Row.of_own hown14)
    have B14 := Lib.hid (B13.out.trans (hb14.mono B13.out.size))
    clear hown14 hb14 HX13 HO13 B13 hn14 hlen12
    go_wp2_with fail
    refine (Same_c _ _ _ _ _ _ _ w14 HO14.out HP14.out rfl).mono ?_
    rintro e _ ⟨rfl, q15, rfl⟩
    have B15 := Lib.hid (below_drewN B14.out q15)
    generalize w14.drewN q15 = w15 at *
    clear HO14 HP14 B14
    go_wp2_with fail
    refine (HF.out w15 B15.out).mono ?_
    rintro e w16 ⟨rfl, hb16⟩
    have B16 := Lib.hid (B15.out.trans (hb16.mono B15.out.size))
    clear hb16 B15
    go_wp2
    go_ret
    exact ⟨rfl, B1.out.trans ((B8.out.trans (B16.out.mono B8.out.size)).mono B1.out.size)⟩
  · have hokn : okF T < n := by have := HOKL.out; omega
    go_wp2_with fail
    refine (FixedB_wrong w9 r C n c T (HC8.out.below B9.out) (by omega) hokn last).mono ?_
    rintro e w10 ⟨rfl, hb10⟩
    have B10 := Lib.hid (B9.out.trans (hb10.mono B9.out.size))
    have HW10 := Lib.hid (HW9.out.below hb10)
    clear hb10 HW9 HX9 HN9 B9
    have hrr := RRight_c C n c T w10 (HC8.out.below B10.out) (by omega)
    rw [decide_eq_false hok] at hrr
    have HRR := Lib.hid hrr
    clear hrr
    go_wp2_with fail
    refine HRR.out.mono ?_
    rintro e w11 ⟨rfl, hb11⟩
    have B11 := Lib.hid (B10.out.trans (hb11.mono B10.out.size))
    have HW11 := Lib.hid (HW10.out.below hb11)
    clear hb11 B10 HW10 HRR
    go_wp2_with fail
    refine (LenB_c HW11.out).mono ?_
    rintro e _ ⟨rfl, rfl⟩
    go_wp2_with fail
    refine (FixedBits_wrong w11 C n c T (HC8.out.below B11.out) (by omega) hokn).mono ?_
    rintro e w12 ⟨rfl, hb12⟩
    have B12 := Lib.hid (B11.out.trans (hb12.mono B11.out.size))
    have HW12 := Lib.hid (HW11.out.below hb12)
    clear hb12 B11 HW11
    go_wp2_with fail
    refine (Dynamic_wrong w12 r C n c T (HC8.out.below B12.out) (by omega) hokn last).mono ?_
    rintro e w13 ⟨rfl, hb13⟩
    have B13 := Lib.hid (B12.out.trans (hb13.mono B12.out.size))
    have HW13 := Lib.hid (HW12.out.below hb13)
    clear hb13 B12 HW12
    go_wp2_with fail
    refine (LenB_c HW13.out).mono ?_
    rintro e _ ⟨rfl, rfl⟩
    go_wp2
    go_ret
    exact ⟨rfl, B1.out.trans ((B8.out.trans (B13.out.mono B8.out.size)).mono B1.out.size)⟩
theorem writes_far (w : World) (ht : Tabs w) (at_ : Int) (B : Option Addr) (m cb : Nat) (C : Option Addr) (n c : Nat) (last : Bool) (h : 60 < n ∨ n ≤ 60 ∧ (200 < m ∧ m ≤ 65535 ∨ 70000 < m)) :
    Calls Tryz.prog 3 #[.int .i64 at_, .slice B m cb, .slice C n c, .bool last] w fun e w' => e = .returned (.bool true) ∧ Below w.heap.size w w' := by
  have HT := Lib.hid ht
  clear ht
  by_cases h1 : 60 < n
  · have hn2 : (60 : Int) < (n : Int) := by omega
    clear h
    go_enter Tryz.func3, Tryz.ntmps3
    go_wp2_with fail
    refine (alive14_c w HT.out).mono ?_
    rintro e w1 ⟨rfl, hb⟩
    go_wp2
    go_ret
    exact ⟨rfl, hb⟩
  · have hn2 : ¬ (60 : Int) < (n : Int) := by omega
    have hm0 : (200 : Int) < (m : Int) := by omega
    by_cases h2 : m ≤ 65535
    · have hm1 : (m : Int) ≤ 65535 := by omega
      clear h
      go_enter Tryz.func3, Tryz.ntmps3
      go_wp2_with fail
      refine (alive14_c w HT.out).mono ?_
      rintro e w1 ⟨rfl, hb⟩
      go_wp2
      go_ret
      exact ⟨rfl, hb⟩
    · have hm1 : ¬ (m : Int) ≤ 65535 := by omega
      have hm2 : (70000 : Int) < (m : Int) := by omega
      clear h
      go_enter Tryz.func3, Tryz.ntmps3
      go_wp2_with fail
      refine (alive14_c w HT.out).mono ?_
      rintro e w1 ⟨rfl, hb⟩
      go_wp2
      go_ret
      exact ⟨rfl, hb⟩
theorem walk_BlockWrites (w : World) (ht : Tabs w) (at_ : Int) (hat : (Lit.int .i64 at_).wf = true) (B : Option Addr) (m cb : Nat) (l : List F) (hl : RowIn w B m cb l) (C : Option Addr) (n c : Nat) (T : List Tok) (hT : TRow w C n T) (hnc : n ≤ c) (hcc : c ≤ 9223372036854775807) (last : Bool) :
    Calls Tryz.prog 3 #[.int .i64 at_, .slice B m cb, .slice C n c, .bool last] w fun e w' => e = .returned (.bool true) ∧ Below w.heap.size w w' := by
  by_cases hn : n ≤ 60
  · by_cases h1 : m ≤ 200
    · exact writes_short w ht at_ B m cb l hl C n c T hT hn last h1
    · by_cases h2 : 65535 < m ∧ m ≤ 70000
      · exact writes_long w ht at_ B m cb l hl C n c T hT hn last h2.1 h2.2
      · exact writes_far w ht at_ B m cb C n c last (.inr ⟨hn, by omega⟩)
  · exact writes_far w ht at_ B m cb C n c last (.inl (by omega))
end Go.Proofs.YthnbflkoipnakaaGreatDoor
