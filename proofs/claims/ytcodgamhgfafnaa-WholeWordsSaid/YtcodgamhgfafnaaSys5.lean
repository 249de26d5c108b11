/-
  THE CONTRACT OF systematic.Fill. Words of at most 255 bytes.
-/
import Derived.Test.YtcodgamhgfafnaaSys4
namespace Go.Proofs.Ytcodgamhgfafnaa
open Go.RowKit
set_option maxRecDepth 100000
set_option linter.unusedVariables false

theorem Fill_arg (A B : Option Addr) (len ca lb cb : Nat) (n : Int) (w : World) (h : len ≠ lb ∨ ¬ (1 ≤ n ∧ n ≤ len ∧ len ≤ 255)) (h1 : len ≤ 9223372036854775807) (h2 : lb ≤ 9223372036854775807) :
    Calls Try.prog 7 #[.slice A len ca, .slice B lb cb, .int .i64 n] w fun e w' => e = .returned (.tuple #[.slice none 0 0, .int .i64 1]) ∧ w = w' := by
  by_cases hl : len = lb
  · subst hl
    have H := Lib.hid (h.resolve_left (fun e => e rfl))
    clear h
    go_enter Try.func7, Try.ntmps7
    go_wp2_with (go_at_call 14; refine (fits_no A len ca n _ H.out).mono ?_; rintro e w' ⟨rfl, rfl⟩)
    go_ret2
    exact ⟨rfl, rfl⟩
  · have e1 : ((len : Int) != (lb : Int)) = true := by rw [bne_iff_ne]; omega
    clear h hl
    go_enter Try.func7, Try.ntmps7
    go_wp2
    go_ret2
    exact ⟨rfl, rfl⟩
set_option maxHeartbeats 1000000 in
theorem Fill_lost (A B : Option Addr) (len ca cb n : Nat) (l : List F) (th : List Bool) (w : World) (h : Row w A len l) (hb : BRow w B len th) (h1 : 1 ≤ n) (h2 : n ≤ len) (h3 : len ≤ 255) (hf : (fth th n len).length < n) :
    Calls Try.prog 7 #[.slice A len ca, .slice B len cb, .int .i64 n] w fun e w' => e = .returned (.tuple #[.slice none 0 0, .int .i64 52]) ∧ Below w.heap.size w w' := by
  have HF := Lib.hid hf
  clear hf
  go_enter Try.func7, Try.ntmps7
  go_wp2_with (go_at_call 14; refine (fits_yes A len ca n _ h1 h2 h3).mono ?_; rintro e w' ⟨rfl, rfl⟩)
  refine (firstThere_c A B len ca cb n l th _ h hb h3 (by omega)).mono ?_
  rintro e w1 ⟨X, cx, Y, cy, t, rfl, ht, hX, hY, hbel⟩
  have htn : (t : Int) < n := by have := ht.out; have := HF.out; omega
  clear hX hY
  go_wp2
  go_ret2
  exact ⟨rfl, hbel⟩
set_option maxHeartbeats 1000000 in
theorem Fill_ok (A B : Option Addr) (len ca cb n : Nat) (l : List F) (th : List Bool) (w : World) (h : Row w A len l) (hb : BRow w B len th) (h1 : 1 ≤ n) (h2 : n ≤ len) (h3 : len ≤ 255) (hf : n ≤ (fth th n len).length) :
    Calls Try.prog 7 #[.slice A len ca, .slice B len cb, .int .i64 n] w fun e w' => ∃ g T, e = .returned (.tuple #[.slice (some ⟨g, 0, none⟩) len len, .int .i64 0]) ∧ w'.ownsRow w.heap.size 5 1 (.slice (some ⟨g, 0, none⟩) len len) len (cs (vals T 0 len)) ∧ IsThrough (thX th n len) (thY l th n len) T ∧ Below w.heap.size w w' := by
  have HF := Lib.hid (Nat.le_antisymm (fth_le th n len) hf)
  clear hf
  go_enter Try.func7, Try.ntmps7
  go_wp2_with (go_at_call 14; refine (fits_yes A len ca n _ h1 h2 h3).mono ?_; rintro e w' ⟨rfl, rfl⟩)
  refine (firstThere_c A B len ca cb n l th _ h hb h3 (by omega)).mono ?_
  rintro e w1 ⟨X, cx, Y, cy, t, rfl, ht, hX, hY, hbel⟩
  have htn : t = n := by have := ht.out; have := HF.out; omega
  subst htn
  have hrX := Row.of_own hX
  have hrY := Row.of_own hY
  have HND := Lib.hid (thX_nodup th t len (by omega))
  clear hX hY
  go_wp2_with fail
  refine (Through_ok X Y t cx cy _ _ w1 hrX hrY HND.out (by omega)).mono ?_
  rintro e w2 ⟨A2, t2, c2, T, rfl, hT, hth, hb2⟩
  have hB2 := hbel.trans (hb2.mono hbel.size)
  have HT := Lib.hid hth
  clear hrX hrY hb2 hbel hth
  go_wp2_with fail
  refine (values_c A2 t2 c2 0 len T w2 hT.row (by omega)).mono ?_
  rintro e w3 ⟨g, rfl, hown, hb3⟩
  go_wp2
  go_ret2
  exact ⟨g, T, rfl, hown.mono hB2.size, HT.out, hB2.trans (hb3.mono hB2.size)⟩
end Go.Proofs.Ytcodgamhgfafnaa
