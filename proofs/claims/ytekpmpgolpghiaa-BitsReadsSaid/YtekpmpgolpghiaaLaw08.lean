/-
  THE CONTRACT OF LAW 08's OWN EXAMPLES (alive), and LAW 08's WALK: BitsBytes. No conditions.
-/
import Derived.Test.YtekpmpgolpghiaaBitB
import Derived.Test.YtekpmpgolpghiaaBitC
namespace Go.Proofs.Ytekpmpgolpghiaa
open Go.RowKit
set_option maxRecDepth 100000
set_option linter.unusedVariables false

theorem Wr.zero (w : World) (C : Array Value) (hC : C = #[.slice none 0 0, .int .i64 0]) : Wr (w.alloc (.cells C 47)) w.heap.size none 0 0 0 [] := by
  subst hC
  exact ⟨Blk.new w _ _, ⟨rfl, .inl ⟨rfl, rfl⟩⟩, rfl, rfl, by omega⟩
/-- what a call owns stays, where it is neither the writer nor its bytes -/
theorem own_wout {p base n c : Nat} {e : TypeId} {a b : Option Nat} {A : Option Addr} {xs : List Value} {w w' : World} (h : WOut p a b w w') (ho : w.ownsRow base e 1 (.slice A n c) n xs) (hp : p < base) (ha : ∀ g, a = some g → g < base) : w'.ownsRow base e 1 (.slice A n c) n xs := by
  refine ⟨ho.1, ?_⟩
  rcases ho.2 with hn | ⟨g, cap, cur, hv, hbg, hg, rest⟩
  · exact .inl hn
  · exact .inr ⟨g, cap, cur, hv, hbg, (h.block g (Array.getElem?_eq_some_iff.1 hg).1 (by omega) (fun e => by have := ha g e; omega)).trans hg, rest⟩
theorem Wr.alt {w : World} {p : Nat} {A : Option Addr} {len cap n : Nat} {X : List Bool} (h : Wr w p A len cap n X) : ∀ g, (Value.slice A len cap).ownBlock = some g → g < w.heap.size := fun g e => (h.own.lt g e).2
theorem Wr.alo {w : World} {p : Nat} {A : Option Addr} {len cap n : Nat} {X : List Bool} (h : Wr w p A len cap n X) : ∀ g, (Value.slice A len cap).ownBlock = some g → p < g := fun g e => by have := (h.own.lt g e).1; omega
theorem WOut.low {p : Nat} {a b : Option Nat} {w w' : World} {B : Nat} (h : WOut p a b w w') (hB : B ≤ p) (hp : p < w.heap.size) (ha : ∀ g, a = some g → p < g) : Below B w w' := h.below hB (by omega) (fun g e => by have := ha g e; omega)
theorem u32_eq (a b : Nat) : ((a : Int) == (b : Int)) = decide (a = b) := by
  rw [Bool.eq_iff_iff, beq_iff_eq, decide_eq_true_iff]
  omega
theorem Wr.outOf {w w' : World} {p q : Nat} {A : Option Addr} {len cap n : Nat} {X : List Bool} (h : Wr w p A len cap n X) (ho : Out q (q + 1) w w') (hp : p ≠ q) (ha : ∀ g, (Value.slice A len cap).ownBlock = some g → g ≠ q) : Wr w' p A len cap n X := by
  refine ⟨?_, ?_, h.hl, h.hn, h.few⟩
  · have := h.blk
    unfold Blk at this ⊢
    rw [ho.block p h.lt (by omega)]
    exact this
  · refine ⟨h.own.1, ?_⟩
    rcases h.own.2 with hn | ⟨g, cap', cur, hv, hbg, hg, rest⟩
    · exact .inl hn
    · exact .inr ⟨g, cap', cur, hv, hbg, (ho.block g (Array.getElem?_eq_some_iff.1 hg).1 (by
        have := ha g (by rw [hv]; rfl)
        omega)).trans hg, rest⟩
section
variable {w : World} {p : Nat} {A : Option Addr} {len cap n : Nat} {X : List Bool}
theorem ex8_put1 (h : Wr w p none 0 0 0 []) : Calls Try.prog 28 #[.pointer (some ⟨p, 0, none⟩), .int .u32 1, .int .i64 1] w fun e w' => e = .returned (.tuple #[]) ∧ ∃ A' len' cap', Wr w' p A' len' cap' 1 [true] ∧ WOut p none (Value.slice A' len' cap').ownBlock w w' := PutB_c h 1 (by decide) 1 (by decide)
theorem ex8_put2 (h : Wr w p A len cap 1 [true]) : Calls Try.prog 28 #[.pointer (some ⟨p, 0, none⟩), .int .u32 2, .int .i64 2] w fun e w' => e = .returned (.tuple #[]) ∧ ∃ A' len' cap', Wr w' p A' len' cap' 3 [true, false, true] ∧ WOut p (Value.slice A len cap).ownBlock (Value.slice A' len' cap').ownBlock w w' := PutB_c h 2 (by decide) 2 (by decide)
theorem ex8_code (h : Wr w p A len cap 3 [true, false, true]) : Calls Try.prog 30 #[.pointer (some ⟨p, 0, none⟩), .int .u32 1, .int .i64 3] w fun e w' => e = .returned (.tuple #[]) ∧ ∃ A' len' cap', Wr w' p A' len' cap' 6 [true, false, true, false, false, true] ∧ WOut p (Value.slice A len cap).ownBlock (Value.slice A' len' cap').ownBlock w w' := CodeB_c h 1 (by decide) 3 (by decide)
theorem Wr.len1 (h : Wr w p A len cap 6 [true, false, true, false, false, true]) : len = 1 := h.hl.out
end
set_option maxHeartbeats 4000000 in
theorem alive08_c (w : World) : Calls Try.prog 26 #[] w fun e w' => e = .returned (.bool true) ∧ Below w.heap.size w w' := by
  have e1 : ((strB [ofN 37]).toList == [37]) = true := by decide +kernel
  go_enter Try.func26, Try.ntmps26
  go_wp2_with fail
  refine (ex8_put1 (Wr.zero w _ rfl)).mono ?_
  rintro e w1 ⟨rfl, A1, len1, cap1, hW1, hO1⟩
  have hB1 : Below w.heap.size w w1 := ((Below.refl _ w).alloc (Nat.le_refl _) _).trans (hO1.low (Nat.le_refl _) (by simp) (fun g e => by cases e))
  obtain ⟨p, hp⟩ : ∃ p, p = w.heap.size := ⟨_, rfl⟩
  have hpw : w.heap.size ≤ p := by omega
  rw [← hp] at hW1 ⊢
  have HP := Lib.hid hpw
  clear hp hpw hO1
  go_wp2_with fail
  refine (ex8_put2 hW1).mono ?_
  rintro e w2 ⟨rfl, A2, len2, cap2, hW2, hO2⟩
  have hB2 := hB1.trans (hO2.low HP.out hW1.lt hW1.alo)
  clear hO2 hB1
  go_wp2_with fail
  refine (ex8_code hW2).mono ?_
  rintro e w3 ⟨rfl, A3, len3, cap3, hW3, hO3⟩
  have hB3 := hB2.trans (hO3.low HP.out hW2.lt hW2.alo)
  clear hO3 hB2
  obtain rfl := hW3.len1
  go_wp2_with (go_at_call 36; refine (LenB_c hW3).mono ?_; rintro e _ ⟨rfl, rfl⟩)
  refine (DoneB_c hW3).mono ?_
  rintro e w4 ⟨A4, c4, rfl, hown4, hb4⟩
  have hW4 := hW3.below hb4
  have hB4 := hB3.trans (hb4.mono hB3.size)
  clear hB3
  go_wp2_with fail
  refine (AlignB_c hW4).mono ?_
  rintro e w5 ⟨rfl, hW5, hO5⟩
  have hB5 := hB4.trans (hO5.low HP.out hW4.lt hW4.alo)
  have hown5 := own_wout hO5 hown4 hW3.lt hW3.alt
  have hr5 : Row w5 A4 1 [ofN 37] := own_r hown5 (by decide +kernel)
  clear hown4 hown5 hO5 hB4
  go_wp2_with fail
  refine (ReadB_c A4 1 c4 _ _ hr5 (by omega)).mono ?_
  rintro e w6 ⟨q, A6, c6, rfl, hR6, hq6, hb6⟩
  have hr6 := hr5.below hb6
  have hW6 := hW5.below hb6
  have hB6 := hB5.trans (hb6.mono hB5.size)
  have hpq : w.heap.size ≤ q := Nat.le_trans hB5.size hq6
  have hA4q : ∀ b o, A4 = some ⟨b, o, none⟩ → b ≠ q := fun b o e => by
    subst e
    obtain ⟨b2, o2, e2, hl2, _⟩ := hr5.2.2 (by omega)
    injection e2 with e2
    injection e2 with e2
    omega
  have hpq2 : p ≠ q := by have := hW5.lt; omega
  have hwA : ∀ g, (Value.slice A3 1 cap3).ownBlock = some g → g ≠ q := fun g e => by have := hW5.alt g e; omega
  clear hr5 hW5 hb6 hB5
  go_wp2_with fail
  refine (BitR_ok hR6 (by omega)).mono ?_
  rintro e w7 ⟨rfl, hR7, hO7⟩
  have n1 : numB [ofN 37] 0 1 = 1 := by decide +kernel
  rw [n1]
  have hB7 := hB6.trans (hO7.lowAt hpq hR6.lt)
  have hr7 := hr6.outOf hO7 hA4q
  have hW7 := hW6.outOf hO7 hpq2 hwA
  clear hB6 hr6 hW6
  go_wp2_with fail
  refine (GetB_ok hR7 2 (by decide)).mono ?_
  rintro e w8 ⟨rfl, hR8, hO8⟩
  have n2 : numB [ofN 37] (0 + 1) (heldN 2 32) = 2 := by decide +kernel
  rw [n2]
  rw [show 0 + 1 + heldN 2 32 = 3 by decide] at hR8
  have hB8 := hB7.trans (hO8.lowAt hpq hR7.lt)
  have hr8 := hr7.outOf hO8 hA4q
  have hW8 := hW7.outOf hO8 hpq2 hwA
  clear hB7 hr7 hW7
  go_wp2_with fail
  refine (AlignR_c hR8).mono ?_
  rintro e w9 ⟨rfl, hR9, hO9⟩
  rw [show upB 3 = 8 by decide] at hR9
  have hB9 := hB8.trans (hO9.lowAt hpq hR8.lt)
  have hr9 := hr8.outOf hO9 hA4q
  have hW9 := hW8.outOf hO9 hpq2 hwA
  clear hB8 hr8 hW8
  go_wp2_with fail
  refine (GetB_no hR9 1 (by decide)).mono ?_
  rintro e w10 ⟨rfl, hR10, hO10⟩
  have hB10 := hB9.trans (hO10.lowAt hpq hR9.lt)
  have hr10 := hr9.outOf hO10 hA4q
  have hW10 := hW9.outOf hO10 hpq2 hwA
  have hc10 := run_row_string c4 hr10
  clear hB9 hr9 hW9 hO10 hO9 hO8 hO7 hR6 hR7 hR8 hR9
  go_wp2_with (first
    | (go_at_call 36; refine (LenB_c hW10).mono ?_; rintro e _ ⟨rfl, rfl⟩)
    | (go_at_call 45; refine (AtB_c hR10).mono ?_; rintro e _ ⟨rfl, rfl⟩))
  go_ret
  exact ⟨rfl, hB10⟩
end Go.Proofs.Ytekpmpgolpghiaa
