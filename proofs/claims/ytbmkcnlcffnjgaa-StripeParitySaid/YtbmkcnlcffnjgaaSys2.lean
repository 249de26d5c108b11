/-
  THE CONTRACTS OF PACKAGE systematic: Encode, Is, At; of bytes.Equal. Words of at most 255 bytes.
-/
import Derived.Test.YtbmkcnlcffnjgaaSys
import Derived.Deep.Onto
import Derived.Laws.Strings
namespace Go.Proofs.Ytbmkcnlcffnjgaa
open Go.RowKit
set_option maxRecDepth 100000
set_option linter.unusedVariables false

theorem strB_list (l : List F) : (strB l).toList = l.map toB := by
  rw [ByteArray.toList_eq]
  simp [strB]
theorem strB_beq (l m : List F) : ((strB l).toList == (strB m).toList) = decide (l = m) := by
  rw [strB_list, strB_list]
  by_cases h : l = m
  · subst h; simp
  · rw [decide_eq_false h, beq_eq_false_iff_ne]
    exact fun e => h ((List.map_inj_right (fun x y e => e)).1 e)
theorem Equal_c (A B : Option Addr) (n m ca cb : Nat) (a b : List F) (w : World) (ha : Row w A n a) (hb : Row w B m b) :
    Calls Try.prog 39 #[.slice A n ca, .slice B m cb] w fun e w' => e = .returned (.bool (decide (a = b))) ∧ w = w' := by
  have h1 := run_row_string ca ha
  have h2 := run_row_string cb hb
  have h3 := Lib.hid (strB_beq a b)
  go_enter Try.func39, Try.ntmps39
  go_wp2
  go_ret
  exact ⟨ret_bool h3.out, rfl⟩
/-- cut at the front -/
theorem Row.shift {w : World} {b o n : Nat} {l : List F} (h : Row w (some ⟨b, o, none⟩) n l) {k : Nat} (hk : k ≤ n) : Row w (some ⟨b, o + k, none⟩) (n - k) (l.drop k) := by
  refine ⟨by have := h.1; simp; omega, by have := h.2.1; omega, fun hk0 => ?_⟩
  obtain ⟨b', off, e, hb, hc⟩ := h.2.2 (by omega)
  injection e with e
  injection e with e1 e2
  subst e1 e2
  refine ⟨b, o + k, rfl, hb, fun i hi => ?_⟩
  have h2 := hc (k + i) (by omega)
  rw [gt_drop, ← h2, Nat.add_assoc]
theorem Row.some_ {w : World} {A : Option Addr} {n : Nat} {l : List F} (h : Row w A n l) (hn : 0 < n) : ∃ b o, A = some ⟨b, o, none⟩ := by
  obtain ⟨b, o, e, _⟩ := h.2.2 hn
  exact ⟨b, o, e⟩

set_option maxHeartbeats 1000000 in
theorem Encode_ok (A : Option Addr) (n c k : Nat) (l : List F) (w : World) (h : RowIn w A n c l) (h1 : 1 ≤ n) (h2 : n + k ≤ 255) :
    Calls Try.prog 44 #[.slice A n c, .int .i64 k] w fun e w' => ∃ g T, e = .returned (.tuple #[.slice (some ⟨g, 0, none⟩) k k, .int .i64 0]) ∧ w'.ownsRow w.heap.size 5 1 (.slice (some ⟨g, 0, none⟩) k k) k (cs (vals T n k)) ∧ Tells n l T ∧ Below w.heap.size w w' := by
  have e1 : ((n : Int) == 0) = false := by rw [beq_eq_false_iff_ne]; omega
  have e2 : (k : Int) ≤ 255 - (n : Int) := by omega
  have ht : Hid (l.take n = l) := by unfold Hid; exact List.take_of_length_le (by rw [h.row.len]; exact Nat.le_refl _)
  go_enter Try.func44, Try.ntmps44
  go_wp2_with fail
  refine (first_c A n c n l w h (Nat.le_refl _) (by omega)).mono ?_
  rintro e w1 ⟨A', t, c', T, rfl, hT, htell, hb1⟩
  rw [ht.out] at htell
  go_wp2_with fail
  refine (values_c A' t c' n k T w1 hT.row (by omega)).mono ?_
  rintro e w2 ⟨g, rfl, hown, hb2⟩
  have HT := Lib.hid htell
  clear htell
  go_wp2
  go_ret2
  exact ⟨g, T, rfl, hown.mono hb1.size, HT.out, hb1.trans (hb2.mono hb1.size)⟩
theorem Encode_arg (A : Option Addr) (n c : Nat) (k : Int) (w : World) (h : n = 0 ∨ k < 0) (hn : n ≤ 9223372036854775807) :
    Calls Try.prog 44 #[.slice A n c, .int .i64 k] w fun e w' => e = .returned (.tuple #[.slice none 0 0, .int .i64 1]) ∧ w = w' := by
  by_cases h0 : n = 0
  · subst h0
    clear h
    go_enter Try.func44, Try.ntmps44
    go_wp2
    go_ret2
    exact ⟨rfl, rfl⟩
  · have e1 : ((n : Int) == 0) = false := by rw [beq_eq_false_iff_ne]; omega
    have e2 : k < 0 := by omega
    clear h h0
    go_enter Try.func44, Try.ntmps44
    go_wp2
    go_ret2
    exact ⟨rfl, rfl⟩
theorem Encode_many (A : Option Addr) (n c : Nat) (k : Int) (w : World) (h0 : 1 ≤ n) (hn : n ≤ 9223372036854775807) (hk : 0 ≤ k) (h : 255 < n + k) :
    Calls Try.prog 44 #[.slice A n c, .int .i64 k] w fun e w' => e = .returned (.tuple #[.slice none 0 0, .int .i64 3]) ∧ w = w' := by
  have e1 : ((n : Int) == 0) = false := by rw [beq_eq_false_iff_ne]; omega
  have e3 : ¬ k < 0 := by omega
  have e2 : 255 - (n : Int) < k := by omega
  clear h
  go_enter Try.func44, Try.ntmps44
  go_wp2
  go_ret2
  exact ⟨rfl, rfl⟩
theorem Is_no (A : Option Addr) (len c : Nat) (n : Int) (w : World) (h : ¬ (1 ≤ n ∧ n ≤ len ∧ len ≤ 255)) :
    Calls Try.prog 21 #[.slice A len c, .int .i64 n] w fun e w' => e = .returned (.bool false) ∧ w = w' := by
  have H := Lib.hid h
  clear h
  go_enter Try.func21, Try.ntmps21
  go_wp2_with (go_at_call 36; refine (fits_no A len c n _ H.out).mono ?_; rintro e w' ⟨rfl, rfl⟩)
  go_ret
  exact ⟨rfl, rfl⟩
set_option maxHeartbeats 1000000 in
theorem Is_yes (A : Option Addr) (len c n : Nat) (l : List F) (w : World) (h : RowIn w A len c l) (h1 : 1 ≤ n) (h2 : n ≤ len) (h3 : len ≤ 255) :
    Calls Try.prog 21 #[.slice A len c, .int .i64 n] w fun e w' => ∃ T, e = .returned (.bool (decide (vals T n (len - n) = l.drop n))) ∧ Tells n (l.take n) T ∧ Below w.heap.size w w' := by
  have hle := h.le
  have hmax := h.max
  unfold maxLen at hmax
  obtain ⟨b, o, rfl⟩ := h.row.some_ (by omega)
  obtain ⟨d, hd⟩ : ∃ d, d = len - n := ⟨_, rfl⟩
  have hdi : (len : Int) - (n : Int) = (d : Int) := by omega
  have hrow : ∃ X, (if c = n then (some ⟨b, o, none⟩ : Option Addr) else some ⟨b, o + n, none⟩) = X ∧ ∀ w' : World, Row w' (some ⟨b, o, none⟩) len l → Row w' X d (l.drop n) := by
    refine ⟨_, rfl, fun w' hr => ?_⟩
    by_cases hc : c = n
    · have h0 : l.drop n = [] := List.drop_eq_nil_of_le (by rw [hr.len]; omega)
      have hd0 : d = 0 := by omega
      rw [hd0, h0]
      exact Row.nil _ _
    · rw [if_neg hc, hd]
      exact hr.shift h2
  have HD := Lib.hid hd
  rw [← hd]
  clear hd
  go_enter Try.func21, Try.ntmps21
  go_wp2_with (go_at_call 36; refine (fits_yes _ len c n _ h1 h2 h3).mono ?_; rintro e w' ⟨rfl, rfl⟩)
  refine (first_c _ len c n l w h h2 (by omega)).mono ?_
  rintro e w1 ⟨A', t, c', T, rfl, hT, htell, hb1⟩
  go_wp2_with fail
  refine (values_c A' t c' n d T w1 hT.row (by omega)).mono ?_
  rintro e w2 ⟨g, rfl, hown, hb2⟩
  have HT := Lib.hid htell
  clear htell
  have hB := hb1.trans (hb2.mono hb1.size)
  have hr2 := h.row.below hB
  have hv := Row.of_own hown
  obtain ⟨X, hX, hrX⟩ := hrow
  have hr3 := hrX w2 hr2
  clear hrX hr2 hown hb2 hb1
  go_wp2_with fail
  refine (Equal_c _ X d (len - n) d (c - n) _ _ w2 hv (by rw [← HD.out]; exact hr3)).mono ?_
  rintro e _ ⟨rfl, rfl⟩
  go_wp2
  go_ret
  exact ⟨T, rfl, HT.out, hB⟩
end Go.Proofs.Ytbmkcnlcffnjgaa
