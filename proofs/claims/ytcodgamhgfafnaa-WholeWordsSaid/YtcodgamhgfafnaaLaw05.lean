/-
  LAYER 5: Wrong, and the contract of LAW 05's OWN EXAMPLES (alive). No conditions.
-/
import Derived.Test.YtcodgamhgfafnaaWels
import Derived.Test.YtcodgamhgfafnaaLaw04
namespace Go.Proofs.Ytcodgamhgfafnaa
open Go.RowKit
set_option maxRecDepth 100000
set_option linter.unusedVariables false

/-- what Wrong tells of a word, a word and its places being in order -/
def WroRes (w w' : World) (l : List F) (th : List Bool) (len N : Nat) (e : Ending) : Prop :=
  (∃ D d cd P, e = .returned (.tuple #[.slice D d cd, .bool true]) ∧ Hid (d = (dfF l th (vals P 0 len) len).length) ∧ w'.ownsRow w.heap.size 3 1 (.slice D d cd) d (pivC (dfF l th (vals P 0 len) len)) ∧ N ≤ cntT th len ∧ Fit (thX th len len) (thY l th len len) (cntT th len) N ((cntT th len - N) / 2) P) ∨
  (e = .returned (.tuple #[.slice none 0 0, .bool false]) ∧ (N ≤ cntT th len → ∀ P, ¬ Fit (thX th len len) (thY l th len len) (cntT th len) N ((cntT th len - N) / 2) P))
set_option maxHeartbeats 2000000 in
theorem Wrong_c (A B : Option Addr) (len ca cb N : Nat) (l : List F) (th : List Bool) (w : World) (h : Row w A len l) (hb : BRow w B len th) (hok : DecOk len len (N : Int)) :
    Calls Try.prog 10 #[.slice A len ca, .slice B len cb, .int .i64 (N : Int)] w fun e w' => WroRes w w' l th len N e ∧ Below w.heap.size w w' := by
  have hdec := Decode_c A B len ca cb N l th w h hb hok
  obtain ⟨-, -, -, hlen⟩ := hok
  have HDEC := Lib.hid hdec
  clear hdec
  go_enter Try.func10, Try.ntmps10
  go_wp2_with fail
  refine HDEC.out.mono ?_
  rintro e w1 ⟨hres, hb1⟩
  have hh1 := h.below hb1
  have hhb1 := hb.below hb1
  rcases hres with ⟨T, ct, P, rfl, hown, hc, hfit⟩ | ⟨rfl, hno⟩
  · have HC := Lib.hid hc
    have HF := Lib.hid hfit
    have hT := (own_in hown).row
    clear hc hfit hown HDEC
    go_wp2_with fail
    refine (differing_c A B T len ca cb ct l th (vals P 0 len) w1 hh1 hhb1 hT hlen).mono ?_
    rintro e w3 ⟨D, d, cd, rfl, hd, hown3, hb3⟩
    have HO := Lib.hid (own_base hown3 hb1.size)
    clear hown3 hh1 hhb1 hT
    go_wp2
    go_ret2
    exact ⟨.inl ⟨D, d, cd, P, rfl, hd, HO.out, HC.out, HF.out⟩, hb1.trans (hb3.mono hb1.size)⟩
  · have HNO := Lib.hid hno
    clear hno HDEC
    go_wp2
    go_ret2
    exact ⟨.inr ⟨rfl, HNO.out⟩, hb1⟩
theorem Wrong_arg (A B : Option Addr) (len ca lenb cb : Nat) (n : Int) (w : World) (hbad : ¬ DecOk len lenb n) :
    Calls Try.prog 10 #[.slice A len ca, .slice B lenb cb, .int .i64 n] w fun e w' => e = .returned (.tuple #[.slice none 0 0, .bool false]) ∧ w = w' := by
  have hdec := Decode_arg A B len ca lenb cb n w hbad
  have HDEC := Lib.hid hdec
  clear hdec hbad
  go_enter Try.func10, Try.ntmps10
  go_wp2_with fail
  refine HDEC.out.mono ?_
  rintro e _ ⟨rfl, rfl⟩
  go_wp2
  go_ret2
  exact ⟨rfl, rfl⟩

/-! ### The document's example -/
theorem ex5_fit : Fit (thX [true, true, true, true] 4 4) (thY [ofN 5, ofN 7, ofN 1, ofN 9] [true, true, true, true] 4 4) 4 2 1 [ofN 5, ofN 2] := ⟨by decide +kernel, by decide +kernel, by decide +kernel⟩
theorem ex5_len : (thX [true, true, true, true] 4 4).length = 4 := by decide +kernel
theorem ex5_P {P : List F} (h : Fit (thX [true, true, true, true] 4 4) (thY [ofN 5, ofN 7, ofN 1, ofN 9] [true, true, true, true] 4 4) 4 2 1 P) : P = [ofN 5, ofN 2] :=
  Fit.unique (fun i j hi hj => nodup_gt (thX_nodup _ _ _ (by omega)) i j (by rw [ex5_len]; exact hi) (by rw [ex5_len]; exact hj)) (by omega) h ex5_fit
section
variable {W : World} {g g' : Nat}
theorem ex5_dec (h1 : Row W (some ⟨g, 0, none⟩) 4 [ofN 5, ofN 7, ofN 1, ofN 9]) (h2 : BRow W (some ⟨g', 0, none⟩) 4 [true, true, true, true]) :
    Calls Try.prog 8 #[.slice (some ⟨g, 0, none⟩) 4 4, .slice (some ⟨g', 0, none⟩) 4 4, .int .i64 2] W fun e w' => ∃ g2 c2, e = .returned (.tuple #[.slice (some ⟨g2, 0, none⟩) 4 c2, .int .i64 1, .int .i64 0]) ∧ Row w' (some ⟨g2, 0, none⟩) 4 [ofN 5, ofN 7, ofN 1, ofN 3] ∧ Below W.heap.size W w' := by
  refine (Decode_c _ _ 4 4 4 2 _ _ W h1 h2 ⟨rfl, by omega, by omega, by omega⟩).mono ?_
  rintro e w' ⟨⟨T, ct, P, rfl, hown, hc, hfit⟩ | ⟨rfl, hno⟩, hb⟩
  · obtain rfl := ex5_P hfit
    have hlen : (dfF [ofN 5, ofN 7, ofN 1, ofN 9] [true, true, true, true] (vals [ofN 5, ofN 2] 0 4) 4).length = 1 := by decide +kernel
    obtain ⟨g2, rfl⟩ := own_some hown (by omega)
    have e2 : vals [ofN 5, ofN 2] 0 4 = [ofN 5, ofN 7, ofN 1, ofN 3] := by decide +kernel
    refine ⟨g2, ct, by rw [hlen]; rfl, ?_, hb⟩
    rw [e2] at hown
    exact (own_in hown).row
  · exact absurd ex5_fit (hno (by decide +kernel) _)
theorem ex5_arg (A B : Option Addr) : Calls Try.prog 8 #[.slice A 2 2, .slice B 4 4, .int .i64 2] W fun e w' => e = .returned (.tuple #[.slice none 0 0, .int .i64 0, .int .i64 1]) ∧ W = w' :=
  Decode_arg A B 2 2 4 4 2 W (fun h => by have := h.1; omega)
theorem ex5_lost (h1 : Row W (some ⟨g, 0, none⟩) 4 [ofN 5, ofN 7, ofN 1, ofN 9]) (h2 : BRow W (some ⟨g', 0, none⟩) 4 [true, false, false, false]) :
    Calls Try.prog 8 #[.slice (some ⟨g, 0, none⟩) 4 4, .slice (some ⟨g', 0, none⟩) 4 4, .int .i64 2] W fun e w' => e = .returned (.tuple #[.slice none 0 0, .int .i64 0, .int .i64 52]) ∧ Below W.heap.size W w' := by
  refine (Decode_c _ _ 4 4 4 2 _ _ W h1 h2 ⟨rfl, by omega, by omega, by omega⟩).mono ?_
  rintro e w' ⟨⟨T, ct, P, rfl, hown, hc, hfit⟩ | ⟨rfl, hno⟩, hb⟩
  · exact absurd hc (by decide +kernel)
  · exact ⟨rfl, hb⟩
theorem ex5_wrong (h1 : Row W (some ⟨g, 0, none⟩) 4 [ofN 5, ofN 7, ofN 1, ofN 9]) (h2 : BRow W (some ⟨g', 0, none⟩) 4 [true, true, true, true]) :
    Calls Try.prog 10 #[.slice (some ⟨g, 0, none⟩) 4 4, .slice (some ⟨g', 0, none⟩) 4 4, .int .i64 2] W fun e w' => ∃ g2 c2, e = .returned (.tuple #[.slice (some ⟨g2, 0, none⟩) 1 c2, .bool true]) ∧ w'.cell? ⟨g2, 0, none⟩ = some (.int .i64 3) ∧ Below W.heap.size W w' := by
  refine (Wrong_c _ _ 4 4 4 2 _ _ W h1 h2 ⟨rfl, by omega, by omega, by omega⟩).mono ?_
  rintro e w' ⟨⟨D, d, cd, P, rfl, hd, hown, hc, hfit⟩ | ⟨rfl, hno⟩, hb⟩
  · obtain rfl := ex5_P hfit
    have e1 : dfF [ofN 5, ofN 7, ofN 1, ofN 9] [true, true, true, true] (vals [ofN 5, ofN 2] 0 4) 4 = [3] := by decide +kernel
    rw [e1] at hd hown
    have hd1 : d = 1 := hd.out
    subst hd1
    obtain ⟨g2, rfl⟩ := own_some hown (by omega)
    exact ⟨g2, cd, rfl, hown.cellAt 0 (by omega), hb⟩
  · exact absurd ex5_fit (hno (by decide +kernel) _)
end
end Go.Proofs.Ytcodgamhgfafnaa
