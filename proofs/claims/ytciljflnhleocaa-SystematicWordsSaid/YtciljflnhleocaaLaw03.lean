/-
  LAW 03's OWN EXAMPLES (alive), small, and the document's own Right. No conditions.
-/
import Derived.Test.YtciljflnhleocaaLinG
import Derived.Test.YtciljflnhleocaaSys2
namespace Go.Proofs.Ytciljflnhleocaa
open Go.RowKit
set_option maxRecDepth 100000
set_option linter.unusedVariables false

def e3L (a b : Nat) : Nat → Nat := fun r => if r = 0 then a else b
def e3R (a b : List F) : Nat → List F := fun r => if r = 0 then a else b
theorem min_lit (w : World) (a b : List F) (n m g : Nat) (hn : n = a.length) (hm : m = b.length) (ha : a.length ≤ maxLen) (hb : b.length ≤ maxLen) (C1 C2 C3 : Array Value) (h1 : C1 = (cs a).toArray) (h2 : C2 = (cs b).toArray) (t t3 : TypeId) (hg : g = w.heap.size + 2)
    (h3 : C3 = #[.slice (some ⟨w.heap.size, 0, none⟩) n n, .slice (some ⟨w.heap.size + 1, 0, none⟩) m m]) :
    MIn (((w.alloc (.cells C1 t)).alloc (.cells C2 t)).alloc (.cells C3 t3)) (some ⟨g, 0, none⟩) 2 2 (fun r => if r = 0 then some ⟨w.heap.size, 0, none⟩ else some ⟨w.heap.size + 1, 0, none⟩) (e3L n m) (e3L n m) (e3R a b) := by
  subst hg h3
  have r1 := ((row_lit w a n _ hn rfl ha C1 h1 t).alloc (.cells C2 t)).alloc (.cells #[.slice (some ⟨w.heap.size, 0, none⟩) n n, .slice (some ⟨w.heap.size + 1, 0, none⟩) m m] t3)
  have r2 := (row_lit (w.alloc (.cells C1 t)) b m (w.heap.size + 1) hm (by simp) hb C2 h2 t).alloc (.cells #[.slice (some ⟨w.heap.size, 0, none⟩) n n, .slice (some ⟨w.heap.size + 1, 0, none⟩) m m] t3)
  have hs : ((w.alloc (.cells C1 t)).alloc (.cells C2 t)).heap.size = w.heap.size + 2 := by simp
  have hb3 := Blk.new ((w.alloc (.cells C1 t)).alloc (.cells C2 t)) t3 #[.slice (some ⟨w.heap.size, 0, none⟩) n n, .slice (some ⟨w.heap.size + 1, 0, none⟩) m m]
  rw [hs] at hb3
  refine ⟨Nat.le_refl _, by unfold maxLen; omega, fun _ => ⟨w.heap.size + 2, 0, rfl, by simp, fun r hr => ?_⟩, fun r hr => ?_⟩
  · rw [Nat.zero_add, hb3.cell]
    rcases (show r = 0 ∨ r = 1 by omega) with rfl | rfl
    · simp [e3L]
    · simp [e3L]
  · rcases (show r = 0 ∨ r = 1 by omega) with rfl | rfl
    · simp only [e3L, e3R, if_pos]
      exact ⟨r1, Nat.le_refl _, by omega⟩
    · simp only [e3L, e3R, if_neg (show ¬ (1 : Nat) = 0 by omega)]
      exact ⟨r2, Nat.le_refl _, by omega⟩
section
variable {W : World} {A B : Option Addr} {c cb : Nat} {RA : Nat → Option Addr} {RC : Nat → Nat}
theorem list2 {l : List F} {a b : F} (hl : l.length = 2) (h0 : gt l 0 = a) (h1 : gt l 1 = b) : l = [a, b] := by
  refine ext_gt (by rw [hl]; rfl) fun i hi => ?_
  rw [hl] at hi
  rcases (show i = 0 ∨ i = 1 by omega) with rfl | rfl
  · exact h0
  · exact h1
theorem ex3_solve (h : MIn W A 2 c RA (e3L 2 2) RC (e3R [1, 1] [1, ofN 2])) (hb : Row W B 2 [ofN 3, 0]) :
    Calls Try.prog 22 #[.slice A 2 c, .slice B 2 cb] W fun e w' => ∃ g, e = .returned (.tuple #[.slice (some ⟨g, 0, none⟩) 2 2, .bool true]) ∧ Row w' (some ⟨g, 0, none⟩) 2 [ofN 2, 1] ∧ Below W.heap.size W w' := by
  refine (Solve_yes h B cb _ hb (by decide) (by omega) (show (2 : Nat) ≤ 1048576 by omega)).mono ?_
  rintro e w' ⟨hs, hbl⟩
  have hw : wid 2 (e3L 2 2) = 2 := rfl
  rw [hw] at hs
  have hp : (redTo (augC 2 (mat (e3R [1, 1] [1, ofN 2])) (gt [ofN 3, 0])) 2 2).2 = [0, 1] := by decide +kernel
  rcases hs with ⟨_, g, xl, rfl, hown, hx⟩ | ⟨hn, _⟩
  · refine ⟨g, rfl, own_r hown ?_, hbl⟩
    have hl := own_len hown
    rw [hp] at hx
    have h0 := hx.at_ 0 (by simp)
    have h1 := hx.at_ 1 (by simp)
    exact list2 hl (h0.trans (by decide +kernel)) (h1.trans (by decide +kernel))
  · refine absurd ?_ hn
    intro i h1 h2
    rw [hp] at h1
    simp at h1
    omega
theorem ex3_none (h : MIn W A 2 c RA (e3L 1 1) RC (e3R [1] [1])) (hb : Row W B 2 [1, ofN 2]) :
    Calls Try.prog 22 #[.slice A 2 c, .slice B 2 cb] W fun e w' => e = .returned (.tuple #[.slice none 0 0, .bool false]) ∧ Below W.heap.size W w' := by
  refine (Solve_yes h B cb _ hb (by decide) (by omega) (show (1 : Nat) ≤ 1048576 by omega)).mono ?_
  rintro e w' ⟨hs, hbl⟩
  have hw : wid 2 (e3L 1 1) = 1 := rfl
  rw [hw] at hs
  have hp : (redTo (augC 1 (mat (e3R [1] [1])) (gt [1, ofN 2])) 2 1).2 = [0] := by decide +kernel
  rcases hs with ⟨hc, _⟩ | ⟨_, rfl⟩
  · exfalso
    have h1 := hc 1 (by rw [hp]; simp) (by omega)
    revert h1
    decide +kernel
  · exact ⟨rfl, hbl⟩
theorem ex3_inv (h : MIn W A 2 c RA (e3L 2 2) RC (e3R [1, 1] [1, ofN 2])) :
    Calls Try.prog 40 #[.slice A 2 c] W fun e w' => ∃ g, e = .returned (.tuple #[.slice (some ⟨g, 0, none⟩) 2 2, .bool true]) ∧ Below W.heap.size W w' := by
  refine (Inverse_yes h (by decide) rfl (by omega)).mono ?_
  rintro e w' ⟨hs, hbl⟩
  have hp : (redTo (augI 2 (mat (e3R [1, 1] [1, ofN 2]))) 2 2).2.length = 2 := by decide +kernel
  rcases hs with ⟨_, g, RA', RC', rfl, _⟩ | ⟨hl, _⟩
  · exact ⟨g, rfl, hbl⟩
  · omega
theorem ex3_red (h : MIn W A 2 c RA (e3L 2 2) RC (e3R [1, 1] [1, ofN 2])) :
    Calls Try.prog 12 #[.slice A 2 c, .int .i64 2] W fun e w' => ∃ g P pc, e = .returned (.tuple #[.slice (some ⟨g, 0, none⟩) 2 2, .slice P 2 pc]) ∧ Below W.heap.size W w' := by
  refine (Reduce_yes h (by decide) 2 (by omega) (show (2 : Nat) ≤ 1073741824 by omega)).mono ?_
  rintro e w' ⟨g, hi, P, r, pc, rfl, ⟨K', G', hr, _, _⟩, hbl⟩
  have hp : (redTo (mat (e3R [1, 1] [1, ofN 2])) 2 (min (2 : Int) ((wid 2 (e3L 2 2) : Nat) : Int)).toNat).2.length = 2 := by decide +kernel
  have e2 : r = 2 := hr.out.trans hp
  subst e2
  exact ⟨g, P, pc, rfl, hbl⟩
theorem ex3_rank (h : MIn W A 2 c RA (e3L 2 2) RC (e3R [1, 1] [1, ofN 2])) :
    Calls Try.prog 18 #[.slice A 2 c] W fun e w' => e = .returned (.int .i64 2) ∧ Below W.heap.size W w' := by
  refine (Rank_c h (by omega) (show (2 : Nat) ≤ 1073741824 by omega)).mono ?_
  rintro e w' ⟨rfl, hbl⟩
  have hp : rankIn 2 (e3L 2 2) (e3R [1, 1] [1, ofN 2]) = 2 := by decide +kernel
  exact ⟨ret_i64 (by rw [hp]; rfl), hbl⟩
theorem ex3_right (h : MIn W A 2 c RA (e3L 2 2) RC (e3R [1, 1] [1, ofN 2])) :
    Calls Try.prog 14 #[.slice A 2 c] W fun e w' => e = .returned (.bool true) ∧ W = w' := Right_c h
theorem ex3_wrong (h : MIn W A 2 c RA (e3L 1 0) RC (e3R [1] [])) :
    Calls Try.prog 14 #[.slice A 2 c] W fun e w' => e = .returned (.bool false) ∧ W = w' := Right_c h
theorem ex3_times (h : MIn W A 2 c RA (e3L 2 2) RC (e3R [1, 1] [1, ofN 2])) (hb : Row W B 2 [ofN 2, 1]) :
    Calls Try.prog 20 #[.slice A 2 c, .slice B 2 cb] W fun e w' => ∃ g, e = .returned (.slice (some ⟨g, 0, none⟩) 2 2) ∧ Row w' (some ⟨g, 0, none⟩) 2 [ofN 3, 0] ∧ Below W.heap.size W w' := by
  refine (Times_c h B 2 cb _ hb (by omega)).mono ?_
  rintro e w' ⟨g, rfl, hown, hbl⟩
  exact ⟨g, rfl, own_r hown (by decide +kernel), hbl⟩
end
set_option maxHeartbeats 4000000 in
set_option maxRecDepth 100000 in
theorem alive03_c (w : World) : Calls Try.prog 10 #[] w fun e w' => e = .returned (.bool true) ∧ Below w.heap.size w w' := by
  have e1 : ((strB [ofN 2, (1 : F)]).toList == [2, 1]) = true := by decide +kernel
  have e2 : ((strB [ofN 3, (0 : F)]).toList == [3, 0]) = true := by decide +kernel
  go_enter Try.func10, Try.ntmps10
  go_wp2_with fail
  have hm := min_lit w [1, 1] [1, ofN 2] 2 2 (w.heap.size + 1 + 1) rfl rfl (by unfold maxLen; simp) (by unfold maxLen; simp) _ _ _ rfl rfl 5 23 rfl rfl
  have hb0 : Below w.heap.size w (((w.alloc (.cells #[.int .u8 1, .int .u8 1] 5)).alloc (.cells #[.int .u8 1, .int .u8 2] 5)).alloc (.cells #[.slice (some ⟨w.heap.size, 0, none⟩) 2 2, .slice (some ⟨w.heap.size + 1, 0, none⟩) 2 2] 23)) := (((Below.refl _ _).alloc (Nat.le_refl _) _).alloc (by simp) _).alloc (by simp; omega) _
  have hs0 : (((w.alloc (.cells #[.int .u8 1, .int .u8 1] 5)).alloc (.cells #[.int .u8 1, .int .u8 2] 5)).alloc (.cells #[.slice (some ⟨w.heap.size, 0, none⟩) 2 2, .slice (some ⟨w.heap.size + 1, 0, none⟩) 2 2] 23)).heap.size = w.heap.size + 1 + 1 + 1 := by simp
  have hm1 : MIn ((((w.alloc (.cells #[.int .u8 1, .int .u8 1] 5)).alloc (.cells #[.int .u8 1, .int .u8 2] 5)).alloc (.cells #[.slice (some ⟨w.heap.size, 0, none⟩) 2 2, .slice (some ⟨w.heap.size + 1, 0, none⟩) 2 2] 23)).alloc (.cells #[.int .u8 3, .int .u8 0] 5)) (some ⟨w.heap.size + 1 + 1, 0, none⟩) 2 2 _ (e3L 2 2) (e3L 2 2) (e3R [1, 1] [1, ofN 2]) := hm.below ((Below.refl _ _).alloc (Nat.le_refl _) _)
  have hr1 : Row ((((w.alloc (.cells #[.int .u8 1, .int .u8 1] 5)).alloc (.cells #[.int .u8 1, .int .u8 2] 5)).alloc (.cells #[.slice (some ⟨w.heap.size, 0, none⟩) 2 2, .slice (some ⟨w.heap.size + 1, 0, none⟩) 2 2] 23)).alloc (.cells #[.int .u8 3, .int .u8 0] 5)) (some ⟨w.heap.size + 1 + 1 + 1, 0, none⟩) 2 [ofN 3, 0] := row_lit (((w.alloc (.cells #[.int .u8 1, .int .u8 1] 5)).alloc (.cells #[.int .u8 1, .int .u8 2] 5)).alloc (.cells #[.slice (some ⟨w.heap.size, 0, none⟩) 2 2, .slice (some ⟨w.heap.size + 1, 0, none⟩) 2 2] 23)) [ofN 3, 0] 2 _ rfl hs0.symm (by unfold maxLen; simp) _ rfl _
  have hb1 : Below w.heap.size w ((((w.alloc (.cells #[.int .u8 1, .int .u8 1] 5)).alloc (.cells #[.int .u8 1, .int .u8 2] 5)).alloc (.cells #[.slice (some ⟨w.heap.size, 0, none⟩) 2 2, .slice (some ⟨w.heap.size + 1, 0, none⟩) 2 2] 23)).alloc (.cells #[.int .u8 3, .int .u8 0] 5)) := hb0.alloc hb0.size _
  generalize (fun r => if r = 0 then some (⟨w.heap.size, 0, none⟩ : Addr) else some ⟨w.heap.size + 1, 0, none⟩) = RA at hm1
  clear hm hb0 hs0
  generalize ((((w.alloc (.cells #[.int .u8 1, .int .u8 1] 5)).alloc (.cells #[.int .u8 1, .int .u8 2] 5)).alloc (.cells #[.slice (some ⟨w.heap.size, 0, none⟩) 2 2, .slice (some ⟨w.heap.size + 1, 0, none⟩) 2 2] 23)).alloc (.cells #[.int .u8 3, .int .u8 0] 5)) = w1 at *
  refine (ex3_solve hm1 hr1).mono ?_
  rintro e w2 ⟨g2, rfl, hx2, hb2⟩
  have hm2 := hm1.below hb2
  have hB2 := hb1.trans (hb2.mono hb1.size)
  clear hm1 hr1 hb1 hb2
  go_wp2_with fail
  have hn := min_lit w2 [1] [1] 1 1 (w2.heap.size + 1 + 1) rfl rfl (by unfold maxLen; simp) (by unfold maxLen; simp) _ _ _ rfl rfl 5 23 rfl rfl
  have hb3 : Below w2.heap.size w2 (((w2.alloc (.cells #[.int .u8 1] 5)).alloc (.cells #[.int .u8 1] 5)).alloc (.cells #[.slice (some ⟨w2.heap.size, 0, none⟩) 1 1, .slice (some ⟨w2.heap.size + 1, 0, none⟩) 1 1] 23)) := (((Below.refl _ _).alloc (Nat.le_refl _) _).alloc (by simp) _).alloc (by simp; omega) _
  have hs3 : (((w2.alloc (.cells #[.int .u8 1] 5)).alloc (.cells #[.int .u8 1] 5)).alloc (.cells #[.slice (some ⟨w2.heap.size, 0, none⟩) 1 1, .slice (some ⟨w2.heap.size + 1, 0, none⟩) 1 1] 23)).heap.size = w2.heap.size + 1 + 1 + 1 := by simp
  have hn4 : MIn ((((w2.alloc (.cells #[.int .u8 1] 5)).alloc (.cells #[.int .u8 1] 5)).alloc (.cells #[.slice (some ⟨w2.heap.size, 0, none⟩) 1 1, .slice (some ⟨w2.heap.size + 1, 0, none⟩) 1 1] 23)).alloc (.cells #[.int .u8 1, .int .u8 2] 5)) (some ⟨w2.heap.size + 1 + 1, 0, none⟩) 2 2 _ (e3L 1 1) (e3L 1 1) (e3R [1] [1]) := hn.below ((Below.refl _ _).alloc (Nat.le_refl _) _)
  have hr4 : Row ((((w2.alloc (.cells #[.int .u8 1] 5)).alloc (.cells #[.int .u8 1] 5)).alloc (.cells #[.slice (some ⟨w2.heap.size, 0, none⟩) 1 1, .slice (some ⟨w2.heap.size + 1, 0, none⟩) 1 1] 23)).alloc (.cells #[.int .u8 1, .int .u8 2] 5)) (some ⟨w2.heap.size + 1 + 1 + 1, 0, none⟩) 2 [1, ofN 2] := row_lit (((w2.alloc (.cells #[.int .u8 1] 5)).alloc (.cells #[.int .u8 1] 5)).alloc (.cells #[.slice (some ⟨w2.heap.size, 0, none⟩) 1 1, .slice (some ⟨w2.heap.size + 1, 0, none⟩) 1 1] 23)) [1, ofN 2] 2 _ rfl hs3.symm (by unfold maxLen; simp) _ rfl _
  have hb4 : Below w2.heap.size w2 ((((w2.alloc (.cells #[.int .u8 1] 5)).alloc (.cells #[.int .u8 1] 5)).alloc (.cells #[.slice (some ⟨w2.heap.size, 0, none⟩) 1 1, .slice (some ⟨w2.heap.size + 1, 0, none⟩) 1 1] 23)).alloc (.cells #[.int .u8 1, .int .u8 2] 5)) := hb3.alloc hb3.size _
  generalize (fun r => if r = 0 then some (⟨w2.heap.size, 0, none⟩ : Addr) else some ⟨w2.heap.size + 1, 0, none⟩) = RA4 at hn4
  clear hn hb3 hs3
  generalize ((((w2.alloc (.cells #[.int .u8 1] 5)).alloc (.cells #[.int .u8 1] 5)).alloc (.cells #[.slice (some ⟨w2.heap.size, 0, none⟩) 1 1, .slice (some ⟨w2.heap.size + 1, 0, none⟩) 1 1] 23)).alloc (.cells #[.int .u8 1, .int .u8 2] 5)) = w4 at *
  refine (ex3_none hn4 hr4).mono ?_
  rintro e w5 ⟨rfl, hb5⟩
  have hb25 := hb4.trans (hb5.mono hb4.size)
  have hm5 := hm2.below hb25
  have hx5 := hx2.below hb25
  have hB5 := hB2.trans (hb25.mono hB2.size)
  clear hn4 hr4 hb4 hb5 hb25 hm2 hx2 hB2
  go_wp2_with fail
  refine (ex3_inv hm5).mono ?_
  rintro e w6 ⟨g6, rfl, hb6⟩
  have hm6 := hm5.below hb6
  have hx6 := hx5.below hb6
  have hB6 := hB5.trans (hb6.mono hB5.size)
  clear hm5 hx5 hB5 hb6
  go_wp2_with fail
  refine (ex3_red hm6).mono ?_
  rintro e w7 ⟨g7, P7, pc7, rfl, hb7⟩
  have hm7 := hm6.below hb7
  have hx7 := hx6.below hb7
  have hB7 := hB6.trans (hb7.mono hB6.size)
  have hcx := run_row_string 2 hx7
  clear hm6 hx6 hB6 hb7
  go_wp2_with fail
  refine (ex3_rank hm7).mono ?_
  rintro e w9 ⟨rfl, hb9⟩
  have hm9 := hm7.below hb9
  have hx9 := hx7.below hb9
  have hB9 := hB7.trans (hb9.mono hB7.size)
  clear hm7 hx7 hB7 hb9 hcx
  go_wp2_with fail
  refine (ex3_right hm9).mono ?_
  rintro e _ ⟨rfl, rfl⟩
  go_wp2_with fail
  have hn : MIn (((w9.alloc (.cells #[.int .u8 1] 5)).alloc (.cells #[] 5)).alloc (.cells #[.slice (some ⟨w9.heap.size, 0, none⟩) 1 1, .slice (some ⟨w9.heap.size + 1, 0, none⟩) 0 0] 23)) (some ⟨w9.heap.size + 1 + 1, 0, none⟩) 2 2 _ (e3L 1 0) (e3L 1 0) (e3R [1] []) := min_lit w9 [1] [] 1 0 (w9.heap.size + 1 + 1) rfl rfl (by unfold maxLen; simp) (by unfold maxLen; simp) _ _ _ rfl rfl 5 23 rfl rfl
  have hb10 : Below w9.heap.size w9 (((w9.alloc (.cells #[.int .u8 1] 5)).alloc (.cells #[] 5)).alloc (.cells #[.slice (some ⟨w9.heap.size, 0, none⟩) 1 1, .slice (some ⟨w9.heap.size + 1, 0, none⟩) 0 0] 23)) := (((Below.refl _ _).alloc (Nat.le_refl _) _).alloc (by simp) _).alloc (by simp; omega) _
  have hm10 := hm9.below hb10
  have hx10 := hx9.below hb10
  have hB10 := hB9.trans (hb10.mono hB9.size)
  clear hm9 hx9 hB9 hb10
  refine (ex3_wrong hn).mono ?_
  rintro e _ ⟨rfl, rfl⟩
  clear hn
  generalize (((w9.alloc (.cells #[.int .u8 1] 5)).alloc (.cells #[] 5)).alloc (.cells #[.slice (some ⟨w9.heap.size, 0, none⟩) 1 1, .slice (some ⟨w9.heap.size + 1, 0, none⟩) 0 0] 23)) = w10 at *
  go_wp2_with fail
  refine (ex3_times hm10 hx10).mono ?_
  rintro e w11 ⟨g11, rfl, hx11, hb11⟩
  have hB11 := hB10.trans (hb11.mono hB10.size)
  have hct := run_row_string 2 hx11
  clear hm10 hx10 hB10 hb11
  go_wp2
  go_ret
  exact ⟨rfl, hB11⟩
end Go.Proofs.Ytciljflnhleocaa
