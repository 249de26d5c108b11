/-
  LAYER 5: Wrong, and the contract of LAW 05's OWN EXAMPLES (alive). No conditions.
-/
import Derived.Test.YtefmbmooocpehaaWels
import Derived.Test.YtefmbmooocpehaaLaw04
namespace Go.Proofs.Ytefmbmooocpehaa
open Go.RowKit
set_option maxRecDepth 100000
set_option linter.unusedVariables false

/-- what Wrong tells of a word, a word and its places being in order -/
def WroRes (w w' : World) (l : List F) (th : List Bool) (len N : Nat) (e : Ending) : Prop :=
  (∃ D d cd P, e = .returned (.tuple #[.slice D d cd, .bool true]) ∧ Hid (d = (dfF l th (vals P 0 len) len).length) ∧ w'.ownsRow w.heap.size 3 1 (.slice D d cd) d (pivC (dfF l th (vals P 0 len) len)) ∧ N ≤ cntT th len ∧ Fit (thX th len len) (thY l th len len) (cntT th len) N ((cntT th len - N) / 2) P) ∨
  (e = .returned (.tuple #[.slice none 0 0, .bool false]) ∧ (N ≤ cntT th len → ∀ P, ¬ Fit (thX th len len) (thY l th len len) (cntT th len) N ((cntT th len - N) / 2) P))
set_option maxHeartbeats 2000000 in
theorem Wrong_c (A B : Option Addr) (len ca cb N : Nat) (l : List F) (th : List Bool) (w : World) (h : Row w A len l) (hb : BRow w B len th) (hok : DecOk len len (N : Int)) :
    Calls Try.prog 10 #[.slice A len ca, .slice B len cb, .int .i64 (N : Int)] w fun e w' => WroRes w w' l th len N e ∧ Below w.heap.size w w' := by
  have hdec := Decode_c A B len ca cb N l th w h hb hok
  obtain ⟨-, -, -, hlen⟩ := hok
  have HDEC := Lib.hid hdec
  clear hdec
  go_enter Try.func10, Try.ntmps10
  go_wp2_with fail
  refine HDEC.out.mono ?_
  rintro e w1 ⟨hres, hb1⟩
  have hh1 := h.below hb1
  have hhb1 := hb.below hb1
  rcases hres with ⟨T, ct, P, rfl, hown, hc, hfit⟩ | ⟨rfl, hno⟩
  · have HC := Lib.hid hc
    have HF := Lib.hid hfit
    have hT := (own_in hown).row
    clear hc hfit hown HDEC
    go_wp2_with fail
    refine (differing_c A B T len ca cb ct l th (vals P 0 len) w1 hh1 hhb1 hT hlen).mono ?_
    rintro e w3 ⟨D, d, cd, rfl, hd, hown3, hb3⟩
    have HO := Lib.hid (own_base hown3 hb1.size)
    clear hown3 hh1 hhb1 hT
    go_wp2
    go_ret2
    exact ⟨.inl ⟨D, d, cd, P, rfl, hd, HO.out, HC.out, HF.out⟩, hb1.trans (hb3.mono hb1.size)⟩
  · have HNO := Lib.hid hno
    clear hno HDEC
    go_wp2
    go_ret2
    exact ⟨.inr ⟨rfl, HNO.out⟩, hb1⟩
theorem Wrong_arg (A B : Option Addr) (len ca lenb cb : Nat) (n : Int) (w : World) (hbad : ¬ DecOk len lenb n) :
    Calls Try.prog 10 #[.slice A len ca, .slice B lenb cb, .int .i64 n] w fun e w' => e = .returned (.tuple #[.slice none 0 0, .bool false]) ∧ w = w' := by
  have hdec := Decode_arg A B len ca lenb cb n w hbad
  have HDEC := Lib.hid hdec
  clear hdec hbad
  go_enter Try.func10, Try.ntmps10
  go_wp2_with fail
  refine HDEC.out.mono ?_
  rintro e _ ⟨rfl, rfl⟩
  go_wp2
  go_ret2
  exact ⟨rfl, rfl⟩

/-! ### The document's example -/
theorem ex5_fit : Fit (thX [true, true, true, true] 4 4) (thY [ofN 5, ofN 7, ofN 1, ofN 9] [true, true, true, true] 4 4) 4 2 1 [ofN 5, ofN 2] := ⟨by decide +kernel, by decide +kernel, by decide +kernel⟩
theorem ex5_len : (thX [true, true, true, true] 4 4).length = 4 := by decide +kernel
theorem ex5_P {P : List F} (h : Fit (thX [true, true, true, true] 4 4) (thY [ofN 5, ofN 7, ofN 1, ofN 9] [true, true, true, true] 4 4) 4 2 1 P) : P = [ofN 5, ofN 2] :=
  Fit.unique (fun i j hi hj => nodup_gt (thX_nodup _ _ _ (by omega)) i j (by rw [ex5_len]; exact hi) (by rw [ex5_len]; exact hj)) (by omega) h ex5_fit
section
variable {W : World} {g g' : Nat}
theorem ex5_dec (h1 : Row W (some ⟨g, 0, none⟩) 4 [ofN 5, ofN 7, ofN 1, ofN 9]) (h2 : BRow W (some ⟨g', 0, none⟩) 4 [true, true, true, true]) :
    Calls Try.prog 5 #[.slice (some ⟨g, 0, none⟩) 4 4, .slice (some ⟨g', 0, none⟩) 4 4, .int .i64 2] W fun e w' => ∃ g2 c2, e = .returned (.tuple #[.slice (some ⟨g2, 0, none⟩) 4 c2, .int .i64 1, .int .i64 0]) ∧ Row w' (some ⟨g2, 0, none⟩) 4 [ofN 5, ofN 7, ofN 1, ofN 3] ∧ Below W.heap.size W w' := by
  refine (Decode_c _ _ 4 4 4 2 _ _ W h1 h2 ⟨rfl, by omega, by omega, by omega⟩).mono ?_
  rintro e w' ⟨⟨T, ct, P, rfl, hown, hc, hfit⟩ | ⟨rfl, hno⟩, hb⟩
  · obtain rfl := ex5_P hfit
    have hlen : (dfF [ofN 5, ofN 7, ofN 1, ofN 9] [true, true, true, true] (vals [ofN 5, ofN 2] 0 4) 4).length = 1 := by decide +kernel
    obtain ⟨g2, rfl⟩ := own_some hown (by omega)
    have e2 : vals [ofN 5, ofN 2] 0 4 = [ofN 5, ofN 7, ofN 1, ofN 3] := by decide +kernel
    refine ⟨g2, ct, by rw [hlen]; rfl, ?_, hb⟩
    rw [e2] at hown
    exact (own_in hown).row
  · exact absurd ex5_fit (hno (by decide +kernel) _)
theorem ex5_arg (A B : Option Addr) : Calls Try.prog 5 #[.slice A 2 2, .slice B 4 4, .int .i64 2] W fun e w' => e = .returned (.tuple #[.slice none 0 0, .int .i64 0, .int .i64 1]) ∧ W = w' :=
  Decode_arg A B 2 2 4 4 2 W (fun h => by have := h.1; omega)
theorem ex5_lost (h1 : Row W (some ⟨g, 0, none⟩) 4 [ofN 5, ofN 7, ofN 1, ofN 9]) (h2 : BRow W (some ⟨g', 0, none⟩) 4 [true, false, false, false]) :
    Calls Try.prog 5 #[.slice (some ⟨g, 0, none⟩) 4 4, .slice (some ⟨g', 0, none⟩) 4 4, .int .i64 2] W fun e w' => e = .returned (.tuple #[.slice none 0 0, .int .i64 0, .int .i64 52]) ∧ Below W.heap.size W w' := by
  refine (Decode_c _ _ 4 4 4 2 _ _ W h1 h2 ⟨rfl, by omega, by omega, by omega⟩).mono ?_
  rintro e w' ⟨⟨T, ct, P, rfl, hown, hc, hfit⟩ | ⟨rfl, hno⟩, hb⟩
  · exact absurd hc (by decide +kernel)
  · exact ⟨rfl, hb⟩
theorem ex5_wrong (h1 : Row W (some ⟨g, 0, none⟩) 4 [ofN 5, ofN 7, ofN 1, ofN 9]) (h2 : BRow W (some ⟨g', 0, none⟩) 4 [true, true, true, true]) :
    Calls Try.prog 10 #[.slice (some ⟨g, 0, none⟩) 4 4, .slice (some ⟨g', 0, none⟩) 4 4, .int .i64 2] W fun e w' => ∃ g2 c2, e = .returned (.tuple #[.slice (some ⟨g2, 0, none⟩) 1 c2, .bool true]) ∧ w'.cell? ⟨g2, 0, none⟩ = some (.int .i64 3) ∧ Below W.heap.size W w' := by
  refine (Wrong_c _ _ 4 4 4 2 _ _ W h1 h2 ⟨rfl, by omega, by omega, by omega⟩).mono ?_
  rintro e w' ⟨⟨D, d, cd, P, rfl, hd, hown, hc, hfit⟩ | ⟨rfl, hno⟩, hb⟩
  · obtain rfl := ex5_P hfit
    have e1 : dfF [ofN 5, ofN 7, ofN 1, ofN 9] [true, true, true, true] (vals [ofN 5, ofN 2] 0 4) 4 = [3] := by decide +kernel
    rw [e1] at hd hown
    have hd1 : d = 1 := hd.out
    subst hd1
    obtain ⟨g2, rfl⟩ := own_some hown (by omega)
    exact ⟨g2, cd, rfl, hown.cellAt 0 (by omega), hb⟩
  · exact absurd ex5_fit (hno (by decide +kernel) _)
end
set_option maxHeartbeats 4000000 in
theorem alive05_c (w : World) : Calls Try.prog 4 #[] w fun e w' => e = .returned (.bool true) ∧ Below w.heap.size w w' := by
  have e1 : ((strB [ofN 5, ofN 7, ofN 1, ofN 3]).toList == [5, 7, 1, 3]) = true := by decide +kernel
  go_enter Try.func4, Try.ntmps4
  go_wp2_with fail
  have hall : BRow ((w.alloc (.cells #[.bool true, .bool true, .bool true, .bool true] 4)).alloc (.cells #[.int .u8 5, .int .u8 7, .int .u8 1, .int .u8 9] 5)) (some ⟨w.heap.size, 0, none⟩) 4 [true, true, true, true] := (brow_lit w [true, true, true, true] 4 _ rfl rfl (by unfold maxLen; simp) _ rfl _).alloc _
  have hrA : Row ((w.alloc (.cells #[.bool true, .bool true, .bool true, .bool true] 4)).alloc (.cells #[.int .u8 5, .int .u8 7, .int .u8 1, .int .u8 9] 5)) (some ⟨w.heap.size + 1, 0, none⟩) 4 [ofN 5, ofN 7, ofN 1, ofN 9] := row_lit (w.alloc (.cells #[.bool true, .bool true, .bool true, .bool true] 4)) [ofN 5, ofN 7, ofN 1, ofN 9] 4 _ rfl (by simp) (by unfold maxLen; simp) _ rfl _
  have hB0 : Below w.heap.size w ((w.alloc (.cells #[.bool true, .bool true, .bool true, .bool true] 4)).alloc (.cells #[.int .u8 5, .int .u8 7, .int .u8 1, .int .u8 9] 5)) := ((Below.refl _ _).alloc (Nat.le_refl _) _).alloc (by simp) _
  obtain ⟨gA, hgA⟩ : ∃ g, g = w.heap.size + 1 := ⟨_, rfl⟩
  rw [← hgA] at hrA ⊢
  clear hgA
  generalize ((w.alloc (.cells #[.bool true, .bool true, .bool true, .bool true] 4)).alloc (.cells #[.int .u8 5, .int .u8 7, .int .u8 1, .int .u8 9] 5)) = w1 at *
  refine (ex5_dec hrA hall).mono ?_
  rintro e w2 ⟨g2, c2, rfl, hw2, hb2⟩
  have hall2 := hall.below hb2
  have hB2 := hB0.trans (hb2.mono hB0.size)
  clear hrA hall hB0 hb2
  go_wp2_with fail
  have hall3 := hall2.alloc (.cells #[.int .u8 5, .int .u8 7] 5)
  have hw3 := hw2.alloc (.cells #[.int .u8 5, .int .u8 7] 5)
  have hB3 := hB2.alloc hB2.size (.cells #[.int .u8 5, .int .u8 7] 5)
  clear hall2 hw2 hB2
  obtain ⟨gB, hgB⟩ : ∃ g, g = w2.heap.size := ⟨_, rfl⟩
  rw [← hgB]
  generalize (w2.alloc (.cells #[.int .u8 5, .int .u8 7] 5)) = w3 at *
  clear hgB
  refine (ex5_arg _ _).mono ?_
  rintro e _ ⟨rfl, rfl⟩
  go_wp2_with fail
  have hrC : Row ((w3.alloc (.cells #[.int .u8 5, .int .u8 7, .int .u8 1, .int .u8 9] 5)).alloc (.cells #[.bool true, .bool false, .bool false, .bool false] 4)) (some ⟨w3.heap.size, 0, none⟩) 4 [ofN 5, ofN 7, ofN 1, ofN 9] := (row_lit w3 [ofN 5, ofN 7, ofN 1, ofN 9] 4 _ rfl rfl (by unfold maxLen; simp) _ rfl _).alloc _
  have hbC : BRow ((w3.alloc (.cells #[.int .u8 5, .int .u8 7, .int .u8 1, .int .u8 9] 5)).alloc (.cells #[.bool true, .bool false, .bool false, .bool false] 4)) (some ⟨w3.heap.size + 1, 0, none⟩) 4 [true, false, false, false] := brow_lit _ [true, false, false, false] 4 _ rfl (by simp) (by unfold maxLen; simp) _ rfl _
  have hall4 := (hall3.alloc (.cells #[.int .u8 5, .int .u8 7, .int .u8 1, .int .u8 9] 5)).alloc (.cells #[.bool true, .bool false, .bool false, .bool false] 4)
  have hw4 := (hw3.alloc (.cells #[.int .u8 5, .int .u8 7, .int .u8 1, .int .u8 9] 5)).alloc (.cells #[.bool true, .bool false, .bool false, .bool false] 4)
  have hB4 := (hB3.alloc hB3.size (.cells #[.int .u8 5, .int .u8 7, .int .u8 1, .int .u8 9] 5)).alloc (by have := hB3.size; simp; omega) (.cells #[.bool true, .bool false, .bool false, .bool false] 4)
  clear hall3 hw3 hB3
  generalize ((w3.alloc (.cells #[.int .u8 5, .int .u8 7, .int .u8 1, .int .u8 9] 5)).alloc (.cells #[.bool true, .bool false, .bool false, .bool false] 4)) = w4 at *
  refine (ex5_lost hrC hbC).mono ?_
  rintro e w5 ⟨rfl, hb5⟩
  have hall5 := hall4.below hb5
  have hw5 := hw4.below hb5
  have hB5 := hB4.trans (hb5.mono hB4.size)
  clear hall4 hw4 hB4 hb5 hrC hbC
  go_wp2_with fail
  have hrD : Row (w5.alloc (.cells #[.int .u8 5, .int .u8 7, .int .u8 1, .int .u8 9] 5)) (some ⟨w5.heap.size, 0, none⟩) 4 [ofN 5, ofN 7, ofN 1, ofN 9] := row_lit w5 [ofN 5, ofN 7, ofN 1, ofN 9] 4 _ rfl rfl (by unfold maxLen; simp) _ rfl _
  have hall6 := hall5.alloc (.cells #[.int .u8 5, .int .u8 7, .int .u8 1, .int .u8 9] 5)
  have hw6 := hw5.alloc (.cells #[.int .u8 5, .int .u8 7, .int .u8 1, .int .u8 9] 5)
  have hB6 := hB5.alloc hB5.size (.cells #[.int .u8 5, .int .u8 7, .int .u8 1, .int .u8 9] 5)
  clear hall5 hw5 hB5
  generalize (w5.alloc (.cells #[.int .u8 5, .int .u8 7, .int .u8 1, .int .u8 9] 5)) = w6 at *
  refine (ex5_wrong hrD hall6).mono ?_
  rintro e w7 ⟨g7, c7, rfl, h7, hb7⟩
  have hall7 := hall6.below hb7
  have hw7 := hw6.below hb7
  have hB7 := hB6.trans (hb7.mono hB6.size)
  have hc1 := run_row_string c2 hw7
  have hm1 := Most_c (some ⟨w.heap.size, 0, none⟩) 4 4 2 (by omega) [true, true, true, true] w7 hall7
  have hm2 := Most_c (some ⟨w.heap.size, 0, none⟩) 4 4 5 (by omega) [true, true, true, true] w7 hall7
  rw [show mostI (cntT [true, true, true, true] 4) 2 = 1 by decide +kernel] at hm1
  rw [show mostI (cntT [true, true, true, true] 4) 5 = -1 by decide +kernel] at hm2
  have HM1 := Lib.hid hm1
  have HM2 := Lib.hid hm2
  clear hall6 hw6 hB6 hb7 hrD hm1 hm2
  go_wp2_with (first
    | (go_at_call 8; first | (with_reducible refine Calls.mono HM1.out ?_; rintro e w' ⟨rfl, rfl⟩) | (with_reducible refine Calls.mono HM2.out ?_; rintro e w' ⟨rfl, rfl⟩)))
  go_ret
  exact ⟨rfl, hB7⟩
end Go.Proofs.Ytefmbmooocpehaa
