/-
  LAW 02's WALKS: PolyThrough and PolyBack: each returns true, and writes nothing that was there. No conditions.
-/
import Derived.Test.YtpghcclgphjflaaLaw02
namespace Go.Proofs.Ytpghcclgphjflaa
open Go.RowKit
set_option linter.unusedVariables false

set_option maxHeartbeats 1000000 in
theorem through_great (A B : Option Addr) (n m ca cb : Nat) (w : World) (h : 30 < n ∨ (n ≤ 30 ∧ 30 < m)) (hn : n ≤ 9223372036854775807) (hm : m ≤ 9223372036854775807) :
    Calls Try.prog 10 #[.slice A n ca, .slice B m cb] w fun e w' => e = .returned (.bool true) ∧ Below w.heap.size w w' := by
  rcases h with h | ⟨h, h2⟩
  all_goals
    go_enter Try.func10, Try.ntmps10
    go_wp2_with (go_at_call 27; refine (alive02_c _).mono ?_; rintro e w1 ⟨rfl, hb1⟩)
    go_ret
    exact ⟨rfl, hb1⟩
set_option maxHeartbeats 1000000 in
theorem through_unlike (A B : Option Addr) (n m ca cb : Nat) (w : World) (h : n ≠ m) (hn : n ≤ 30) (hm : m ≤ 30) :
    Calls Try.prog 10 #[.slice A n ca, .slice B m cb] w fun e w' => e = .returned (.bool true) ∧ Below w.heap.size w w' := by
  have h1 : ((n : Int) != (m : Int)) = true := by rw [bne_iff_ne]; omega
  have HNE := Lib.hid h
  clear h
  go_enter Try.func10, Try.ntmps10
  go_wp2_with (first
    | (go_at_call 27; refine (alive02_c _).mono ?_; rintro e w1 ⟨rfl, hb1⟩)
    | (go_at_call 39; refine (Through_arg A B n m ca cb _ HNE.out (by omega) (by omega)).mono ?_; rintro e w' ⟨rfl, rfl⟩))
  go_ret
  exact ⟨rfl, hb1⟩
set_option maxHeartbeats 1000000 in
theorem through_twice (A B : Option Addr) (n ca cb : Nat) (xs : List F) (w : World) (hx : Row w A n xs) (hd : ¬ xs.Nodup) (hn : n ≤ 30) :
    Calls Try.prog 10 #[.slice A n ca, .slice B n cb] w fun e w' => e = .returned (.bool true) ∧ Below w.heap.size w w' := by
  have HD := Lib.hid hd
  have hdd : Hid (decide xs.Nodup = false) := decide_eq_false hd
  clear hd
  go_enter Try.func10, Try.ntmps10
  go_wp2_with (first
    | (go_at_call 27; refine (alive02_c _).mono ?_; rintro e w1 ⟨rfl, hb1⟩; have hx1 := hx.below hb1)
    | (go_at_call 39; refine (Through_twice A B n ca cb xs _ hx1 HD.out).mono ?_; rintro e w2 ⟨rfl, hb2⟩; have hx2 := hx1.below hb2)
    | (go_at_call 40; refine (Unlike_c A n ca xs _ hx2).mono ?_; rintro e w3 ⟨rfl, q, rfl⟩; rw [hdd.out]))
  go_ret
  exact ⟨rfl, below_drewN (hb1.trans (hb2.mono hb1.size)) q⟩
set_option maxHeartbeats 1000000 in
theorem through_ok (A B : Option Addr) (n ca cb : Nat) (xs ys : List F) (w : World) (hx : Row w A n xs) (hy : Row w B n ys) (hd : xs.Nodup) (hn : n ≤ 30) :
    Calls Try.prog 10 #[.slice A n ca, .slice B n cb] w fun e w' => e = .returned (.bool true) ∧ Below w.heap.size w w' := by
  have HD := Lib.hid hd
  have hdd : Hid (decide xs.Nodup = true) := decide_eq_true hd
  clear hd
  go_enter Try.func10, Try.ntmps10
  go_wp2_with (go_at_call 27; refine (alive02_c _).mono ?_; rintro e w1 ⟨rfl, hb1⟩)
  refine (Through_ok A B n ca cb xs ys _ (hx.below hb1) (hy.below hb1) HD.out (by omega)).mono ?_
  rintro e w2 ⟨A2, t, c2, T, rfl, hT, hth, hb2⟩
  have hB2 := hb1.trans (hb2.mono hb1.size)
  have hx2 := hx.below hB2
  have hy2 := hy.below hB2
  clear hb1 hb2
  go_wp2_with fail
  refine (Unlike_c A n ca xs _ hx2).mono ?_
  rintro e _ ⟨rfl, q, rfl⟩
  rw [hdd.out]
  have hx3 := hx2.drewN q
  have hy3 := hy2.drewN q
  have hT3 := hT.row.drewN q
  have hB3 := below_drewN hB2 q
  clear hx2 hy2 hT hB2
  generalize w2.drewN q = w3 at *
  go_wp2_with fail
  refine (RefThrough_c A B n ca cb xs ys _ hx3 hy3 HD.out (by omega)).mono ?_
  rintro e w4 ⟨A4, t4, c4, T4, rfl, hT4, hth4, hb4⟩
  have hT5 := hT3.below hb4
  have hB4 := hB3.trans (hb4.mono hB3.size)
  have hTT : T = T4 := hth.unique HD.out hth4
  have htt : t = t4 := by rw [← hT5.len, ← hT4.row.len, hTT]
  subst htt
  have hT4' := hT4.row
  have HTT := Lib.hid hTT
  clear hTT hT4 hth hth4 hb4 hB3 hT3 hx3 hy3
  go_wp2_with (go_at_call 29; refine (Same_c A2 A4 t c2 c4 T T4 _ hT5 hT4' HTT.out).mono ?_; rintro e _ ⟨rfl, q2, rfl⟩)
  go_ret
  exact ⟨rfl, below_drewN hB4 q2⟩
theorem walk_PolyThrough (w : World) (A : Option Addr) (n ca : Nat) (xs : List F) (hx : RowIn w A n ca xs) (B : Option Addr) (m cb : Nat) (ys : List F) (hy : RowIn w B m cb ys) :
    Calls Try.prog 10 #[.slice A n ca, .slice B m cb] w fun e w' => e = .returned (.bool true) ∧ Below w.heap.size w w' := by
  by_cases hn : n ≤ 30
  · by_cases hm : m ≤ 30
    · by_cases h : n = m
      · subst h
        by_cases hd : xs.Nodup
        · exact through_ok A B n ca cb xs ys w hx.row hy.row hd hn
        · exact through_twice A B n ca cb xs w hx.row hd hn
      · exact through_unlike A B n m ca cb w h hn hm
    · exact through_great A B n m ca cb w (.inr ⟨hn, by omega⟩) hx.row.max hy.row.max
  · exact through_great A B n m ca cb w (.inl (by omega)) hx.row.max hy.row.max
end Go.Proofs.Ytpghcclgphjflaa
