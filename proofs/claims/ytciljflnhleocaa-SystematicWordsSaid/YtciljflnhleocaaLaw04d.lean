/-
  LAW 04's WALK: SystematicWords, put together. No conditions. (Its first part by gen04d.py.)
-/
import Derived.Test.YtciljflnhleocaaLaw04w1
import Derived.Test.YtciljflnhleocaaLaw04w2
namespace Go.Proofs.Ytciljflnhleocaa
open Go.RowKit
set_option maxRecDepth 100000
set_option linter.unusedVariables false
section
variable {w : World} {A B : Option Addr} {len cap lb cb : Nat} {l : List F} {th : List Bool}
set_option maxHeartbeats 8000000 in
theorem words_nil (h : RowIn w A len cap l) (hb : BRow w B lb th) (n k i : Int) (hl : len ≤ 24) (hlb : lb ≤ 24) (h0 : len = 0) (hk24 : k ≤ 24) :
    Calls Try.prog 5 #[.slice A len cap, .slice B lb cb, .int .i64 n, .int .i64 k, .int .i64 i] w fun e w' => e = .returned (.bool true) ∧ Below w.heap.size w w' := by
  obtain ⟨i0, hi, hz0, hz1, hz2⟩ := info_parts info_u8
  have hl1 : ¬ (24 : Int) < len := by omega
  have hlb1 : ¬ (24 : Int) < lb := by omega
  subst h0
  have hk1 : ¬ (24 : Int) < k := by omega
  go_enter Try.func5, Try.ntmps5
  go_wp2_with (first
    | (go_at_call 24; refine (alive04_c _).mono ?_; rintro e w1 ⟨rfl, hb1⟩; have h1 := h.below hb1; have hbb1 := hb.below hb1)
    | (go_at_call 25; refine (Encode_arg A 0 cap k _ (.inl rfl) (by omega)).mono ?_; rintro e w2 ⟨rfl, rfl⟩; have hF := h1; have hbF := hbb1; have hBF := hb1))
  clear h hb h1 hbb1 hb1
  generalize w1 = wF at *
  have hsF := hBF.size
  have hm : ¬ (1 ≤ n ∧ n ≤ ((0 : Nat) : Int) ∧ 0 ≤ 255) := by omega
  have HM := Lib.hid (decide_eq_false hm)
  go_wp2_with (first
    | (go_at_call 28
       refine (Fill_any cb n hF hbF hl hlb).mono ?_
       rintro e w8 ⟨p8, t8, c8, er8, z8, rfl, hr8, hs8, hb8⟩
       have hF8 := hF.below hb8
       have hbF8 := hbF.below hb8
       have hB8 := hBF.trans (hb8.mono hsF)
       have hsz8 := hB8.size)
    | (go_at_call 29
       refine (RefFill_any cb n hF8 hbF8 hl hlb).mono ?_
       rintro e w9 ⟨p9, t9, c9, er9, z9, rfl, hr9, hs9, hb9⟩
       have her : ((er8 : Int) != er9) = false := by rw [(FSpec.unique hs8.out hs9.out).1]; simp
       have hF9 := hF8.below hb9
       have hB9 := hB8.trans (hb9.mono hsz8)
       have hr89 := hr8.below hb9)
    | (go_at_call 19; refine (Same_f hr89 hr9 hs8 hs9).mono ?_; rintro e w10 ⟨rfl, q7, rfl⟩)
    | (go_at_call 30; refine (May_c A 0 cap n _ false HM.out (by omega)).mono ?_; rintro e w' ⟨rfl, rfl⟩)
    | (go_at_call 31; refine (At_no A 0 cap n i _ (.inl hm)).mono ?_; rintro e w' ⟨rfl, rfl⟩)
    | (go_at_call 32; refine (Is_no A 0 cap n _ hm).mono ?_; rintro e w' ⟨rfl, rfl⟩))
  go_ret
  exact ⟨rfl, below_drewN hB9 q7⟩
set_option maxHeartbeats 8000000 in
theorem words_nilb (h : RowIn w A len cap l) (hb : BRow w B lb th) (n k i : Int) (hl : len ≤ 24) (hlb : lb ≤ 24) (h0 : len = 0) (hk231 : 231 ≤ k) :
    Calls Try.prog 5 #[.slice A len cap, .slice B lb cb, .int .i64 n, .int .i64 k, .int .i64 i] w fun e w' => e = .returned (.bool true) ∧ Below w.heap.size w w' := by
  obtain ⟨i0, hi, hz0, hz1, hz2⟩ := info_parts info_u8
  have hl1 : ¬ (24 : Int) < len := by omega
  have hlb1 : ¬ (24 : Int) < lb := by omega
  subst h0
  have hk1 : (24 : Int) < k := by omega
  have hk2 : ¬ k < 231 := by omega
  go_enter Try.func5, Try.ntmps5
  go_wp2_with (first
    | (go_at_call 24; refine (alive04_c _).mono ?_; rintro e w1 ⟨rfl, hb1⟩; have h1 := h.below hb1; have hbb1 := hb.below hb1)
    | (go_at_call 25; refine (Encode_arg A 0 cap k _ (.inl rfl) (by omega)).mono ?_; rintro e w2 ⟨rfl, rfl⟩; have hF := h1; have hbF := hbb1; have hBF := hb1))
  clear h hb h1 hbb1 hb1
  generalize w1 = wF at *
  have hsF := hBF.size
  have hm : ¬ (1 ≤ n ∧ n ≤ ((0 : Nat) : Int) ∧ 0 ≤ 255) := by omega
  have HM := Lib.hid (decide_eq_false hm)
  go_wp2_with (first
    | (go_at_call 28
       refine (Fill_any cb n hF hbF hl hlb).mono ?_
       rintro e w8 ⟨p8, t8, c8, er8, z8, rfl, hr8, hs8, hb8⟩
       have hF8 := hF.below hb8
       have hbF8 := hbF.below hb8
       have hB8 := hBF.trans (hb8.mono hsF)
       have hsz8 := hB8.size)
    | (go_at_call 29
       refine (RefFill_any cb n hF8 hbF8 hl hlb).mono ?_
       rintro e w9 ⟨p9, t9, c9, er9, z9, rfl, hr9, hs9, hb9⟩
       have her : ((er8 : Int) != er9) = false := by rw [(FSpec.unique hs8.out hs9.out).1]; simp
       have hF9 := hF8.below hb9
       have hB9 := hB8.trans (hb9.mono hsz8)
       have hr89 := hr8.below hb9)
    | (go_at_call 19; refine (Same_f hr89 hr9 hs8 hs9).mono ?_; rintro e w10 ⟨rfl, q7, rfl⟩)
    | (go_at_call 30; refine (May_c A 0 cap n _ false HM.out (by omega)).mono ?_; rintro e w' ⟨rfl, rfl⟩)
    | (go_at_call 31; refine (At_no A 0 cap n i _ (.inl hm)).mono ?_; rintro e w' ⟨rfl, rfl⟩)
    | (go_at_call 32; refine (Is_no A 0 cap n _ hm).mono ?_; rintro e w' ⟨rfl, rfl⟩))
  go_ret
  exact ⟨rfl, below_drewN hB9 q7⟩
end
set_option maxHeartbeats 2000000 in
theorem words_out (w : World) (A B : Option Addr) (len cap lb cb : Nat) (n k i : Int) (hh : 24 < len ∨ 24 < lb ∨ 24 < k ∧ k < 231) :
    Calls Try.prog 5 #[.slice A len cap, .slice B lb cb, .int .i64 n, .int .i64 k, .int .i64 i] w fun e w' => e = .returned (.bool true) ∧ Below w.heap.size w w' := by
  by_cases h1 : 24 < len
  · have hl1 : (24 : Int) < len := by omega
    clear hh
    go_enter Try.func5, Try.ntmps5
    go_wp2_with (go_at_call 24; refine (alive04_c _).mono ?_; rintro e w1 ⟨rfl, hb1⟩)
    go_ret
    exact ⟨rfl, hb1⟩
  · have hl1 : ¬ (24 : Int) < len := by omega
    by_cases h2 : 24 < lb
    · have hl2 : (24 : Int) < lb := by omega
      clear hh
      go_enter Try.func5, Try.ntmps5
      go_wp2_with (go_at_call 24; refine (alive04_c _).mono ?_; rintro e w1 ⟨rfl, hb1⟩)
      go_ret
      exact ⟨rfl, hb1⟩
    · have hl2 : ¬ (24 : Int) < lb := by omega
      have hk1 : (24 : Int) < k := by omega
      have hk2 : k < 231 := by omega
      clear hh
      go_enter Try.func5, Try.ntmps5
      go_wp2_with (go_at_call 24; refine (alive04_c _).mono ?_; rintro e w1 ⟨rfl, hb1⟩)
      go_ret
      exact ⟨rfl, hb1⟩
theorem walk_SystematicWords (w : World) (A : Option Addr) (len cap : Nat) (l : List F) (h : RowIn w A len cap l) (B : Option Addr) (lb cb : Nat) (th : List Bool) (hb : BRow w B lb th) (n : Int) (_ : (Lit.int .i64 n).wf = true) (k : Int) (_ : (Lit.int .i64 k).wf = true) (i : Int) (_ : (Lit.int .i64 i).wf = true) :
    Calls Try.prog 5 #[.slice A len cap, .slice B lb cb, .int .i64 n, .int .i64 k, .int .i64 i] w fun e w' => e = .returned (.bool true) ∧ Below w.heap.size w w' := by
  by_cases hh : 24 < len ∨ 24 < lb ∨ 24 < k ∧ k < 231
  · exact words_out w A B len cap lb cb n k i hh
  · have hl : len ≤ 24 := by omega
    have hlb : lb ≤ 24 := by omega
    rcases Nat.eq_zero_or_pos len with h0 | h0
    · by_cases hk : k ≤ 24
      · exact words_nil h hb n k i hl hlb h0 hk
      · exact words_nilb h hb n k i hl hlb h0 (by omega)
    · by_cases hk0 : k < 0
      · exact words_neg h hb n k i hl hlb h0 hk0
      · by_cases hk24 : k ≤ 24
        · exact words_ok h hb n k i hl hlb h0 (by omega) hk24
        · by_cases hk3 : 255 < k
          · exact words_many h hb n k i hl hlb h0 hk3
          · by_cases hk255 : 255 < (len : Int) + k
            · exact words_sum h hb n k i hl hlb h0 (by omega) hk3 hk255
            · exact words_big h hb n k i hl hlb h0 (by omega) hk3 hk255
end Go.Proofs.Ytciljflnhleocaa
