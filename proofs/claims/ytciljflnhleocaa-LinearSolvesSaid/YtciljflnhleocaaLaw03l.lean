/-
  LAW 03's WALK: LinearReduces, given what the document's own Reduce answers. No other conditions.
-/
import Derived.Test.YtciljflnhleocaaLaw03e
import Derived.Test.YtciljflnhleocaaLaw03h
import Derived.Test.YtciljflnhleocaaLaw03k
namespace Go.Proofs.Ytciljflnhleocaa
open Go.RowKit
set_option maxRecDepth 100000
set_option linter.unusedVariables false

/-- .. of all rows -/
def RefRed : Prop := ∀ {w : World} {A : Option Addr} {n cap : Nat} {RA : Nat → Option Addr} {RL RC : Nat → Nat} {R : Nat → List F} (_ : MIn w A n cap RA RL RC R) (_ : isR n RL) (cols : Int) (_ : n ≤ 1073741824) (_ : wid n RL ≤ 1073741824),
    Calls Try.prog 13 #[.slice A n cap, .int .i64 cols] w fun e w' => RefRes w w' n (wid n RL) (redTo (mat R) n (min cols (wid n RL)).toNat) e ∧ Below w.heap.size w w'
section
variable {w : World} {A : Option Addr} {n cap : Nat} {RA : Nat → Option Addr} {RL RC : Nat → Nat} {R : Nat → List F}
theorem RefReduce_no (h : MIn w A n cap RA RL RC R) (hr : ¬ isR n RL) (cols : Int) :
    Calls Try.prog 13 #[.slice A n cap, .int .i64 cols] w fun e w' => e = .returned (.tuple #[.slice none 0 0, .slice none 0 0]) ∧ ∃ q, w' = w.drewN q := by
  have HR := Lib.hid (decide_eq_false hr)
  clear hr
  go_enter Try.func13, Try.ntmps13
  go_wp2_with (go_at_call 15; refine (right_at false h HR.out).mono ?_; rintro e w' ⟨rfl, q, rfl⟩)
  go_ret2
  exact ⟨rfl, q, rfl⟩
theorem right_l (b : Bool) (h : MIn w A n cap RA RL RC R) (hb : decide (isR n RL) = b) : Calls Try.prog 14 #[.slice A n cap] w fun e w' => e = .returned (.bool b) ∧ w = w' := by
  subst hb; exact Right_c h
set_option maxHeartbeats 1000000 in
theorem reds_less (h : MIn w A n cap RA RL RC R) (cols : Int) (B : Option Addr) (m cb : Nat) (hm : m ≤ 9223372036854775807) (hc : ¬ (isS n RL ∧ m ≤ 30)) :
    Calls Try.prog 3 #[.slice A n cap, .int .i64 cols, .slice B m cb] w fun e w' => e = .returned (.bool true) ∧ Below w.heap.size w w' := by
  by_cases hs : isS n RL
  · have HS := Lib.hid (decide_eq_true hs)
    have hn : (30 : Int) < m := by
      have : ¬ m ≤ 30 := fun e => hc ⟨hs, e⟩
      omega
    clear hc hs
    go_enter Try.func3, Try.ntmps3
    go_wp2_with (first
      | (go_at_call 10; refine (alive03_c _).mono ?_; rintro e w1 ⟨rfl, hb1⟩; have h1 := h.below hb1)
      | (go_at_call 11; refine (small_at true h1 HS.out).mono ?_; rintro e w' ⟨rfl, rfl⟩))
    go_ret
    exact ⟨rfl, hb1⟩
  · have HS := Lib.hid (decide_eq_false hs)
    clear hc hs
    go_enter Try.func3, Try.ntmps3
    go_wp2_with (first
      | (go_at_call 10; refine (alive03_c _).mono ?_; rintro e w1 ⟨rfl, hb1⟩; have h1 := h.below hb1)
      | (go_at_call 11; refine (small_at false h1 HS.out).mono ?_; rintro e w' ⟨rfl, rfl⟩))
    go_ret
    exact ⟨rfl, hb1⟩
set_option maxHeartbeats 4000000 in
set_option maxRecDepth 100000 in
theorem reds_main (HRR : Hid RefRed) (h : MIn w A n cap RA RL RC R) (cols : Int) (B : Option Addr) (m cb : Nat) (x : List F) (hx : Row w B m x) (hs : isS n RL) (hm : m ≤ 30) :
    Calls Try.prog 3 #[.slice A n cap, .int .i64 cols, .slice B m cb] w fun e w' => e = .returned (.bool true) ∧ Below w.heap.size w w' := by
  have HS := Lib.hid (decide_eq_true hs)
  have hn20 := hs.1
  have hmi : ¬ (30 : Int) < m := by omega
  have hw20 : wid n RL ≤ 20 := by
    unfold wid
    split
    · omega
    · exact hs.2 0 (by omega)
  have HWN : Hid (wid n RL ≤ 1073741824) := by unfold Hid; omega
  by_cases hr : isR n RL
  · have HR := Lib.hid (decide_eq_true hr)
    have HR2 := Lib.hid hr
    obtain ⟨X, hX⟩ : ∃ X, redTo (mat R) n (min cols (wid n RL)).toNat = X := ⟨_, rfl⟩
    obtain ⟨Y, hY⟩ : ∃ Y, redTo (mat R) n (min 20 ((wid n RL : Nat) : Int)).toNat = Y := ⟨_, rfl⟩
    have hrk : rankIn n RL R = Y.2.length := by
      unfold rankIn rankF
      rw [if_pos hr, ← hY, show (min 20 ((wid n RL : Nat) : Int)).toNat = wid n RL by omega]
    have hYn : Y.2.length ≤ n := by rw [← hY]; exact (redTo_rref _ _ _).len
    have hXn : X.2.length ≤ n := by rw [← hX]; exact (redTo_rref _ _ _).len
    have HX := Lib.hid hX
    have HY := Lib.hid hY
    have HRK := Lib.hid hrk
    clear hs hr hX hY hrk hw20
    go_enter Try.func3, Try.ntmps3
    go_wp2_with (first
      | (go_at_call 10; refine (alive03_c _).mono ?_; rintro e w1 ⟨rfl, hb1⟩; have h1 := h.below hb1; have hx1 := hx.below hb1)
      | (go_at_call 11; refine (small_at true h1 HS.out).mono ?_; rintro e w' ⟨rfl, rfl⟩))
    refine (Reduce_yes h1 HR2.out cols (by omega) HWN.out).mono ?_
    rintro e w2 ⟨g2, hi2, P2, r2, pc2, rfl, ⟨K2, G2, hr2, hown2, hM2⟩, hb2⟩
    rw [HX.out] at hr2 hown2 hM2
    have hin2 := hM2.toIn (Nat.le_refl n) (by unfold maxLen; omega)
    have hv2 := VRow.ofOwn hown2 (by rw [hr2.out]; unfold maxLen; omega)
    have h2 := h1.below hb2
    have hx2 := hx1.below hb2
    have hB2 := hb1.trans (hb2.mono hb1.size)
    clear h h1 hx hx1 hb1 hb2 hown2 hM2
    go_wp2_with fail
    refine (HRR.out h2 HR2.out cols (by omega) HWN.out).mono ?_
    rintro e w3 ⟨⟨g3, cg3, hi3, P3, r3, pc3, rfl, hc3, hc4, K3, G3, hr3, hown3, hM3⟩, hb3⟩
    rw [HX.out] at hr3 hown3 hM3
    obtain rfl : r2 = r3 := hr2.out.trans hr3.out.symm
    have hin3 := hM3.toIn hc3 hc4
    have hv3 := VRow.ofOwn hown3 (by rw [hr3.out]; unfold maxLen; omega)
    have h3 := h2.below hb3
    have hx3 := hx2.below hb3
    have hin23 := hin2.below hb3
    have hv23 := hv2.below hb3
    have hB3 := hB2.trans (hb3.mono hB2.size)
    clear h2 hx2 hin2 hv2 hB2 hb3 hown3 hM3 hr3
    go_wp2_with fail
    refine (HRR.out h3 HR2.out 20 (by omega) HWN.out).mono ?_
    rintro e w4 ⟨⟨g4, cg4, hi4, P4, r4, pc4, rfl, _, _, K4, G4, hr4, _, _⟩, hb4⟩
    rw [HY.out] at hr4
    have h4 := h3.below hb4
    have hx4 := hx3.below hb4
    have hin24 := hin23.below hb4
    have hv24 := hv23.below hb4
    have hin34 := hin3.below hb4
    have hv34 := hv3.below hb4
    have hB4 := hB3.trans (hb4.mono hB3.size)
    have hrr : ((r4 : Int) == (r4 : Int)) = true := by simp
    clear h3 hx3 hin23 hv23 hin3 hv3 hB3 hb4
    go_wp2_with fail
    refine (right_l true h4 HR.out).mono ?_
    rintro e _ ⟨rfl, rfl⟩
    go_wp2_with fail
    refine (right_at true h4 HR.out).mono ?_
    rintro e _ ⟨rfl, q5, rfl⟩
    have h5 := h4.drewN q5
    have hx5 := hx4.drewN q5
    have hin25 := hin24.drewN q5
    have hv25 := hv24.drewN q5
    have hin35 := hin34.drewN q5
    have hv35 := hv34.drewN q5
    have hB5 := below_drewN hB4 q5
    clear h4 hx4 hin24 hv24 hin34 hv34 hB4
    generalize w4.drewN q5 = w5 at *
    go_wp2_with fail
    refine (RefSame_c hin25 hin35 fun _ _ => rfl).mono ?_
    rintro e _ ⟨rfl, q6, rfl⟩
    have h6 := h5.drewN q6
    have hx6 := hx5.drewN q6
    have hv26 := hv25.drewN q6
    have hv36 := hv35.drewN q6
    have hB6 := below_drewN hB5 q6
    clear h5 hx5 hin25 hv25 hin35 hv35 hB5
    generalize w5.drewN q6 = w6 at *
    go_wp2_with fail
    refine (SameInts_c _ _ _ _ _ _ w6 hv26 hv36 hr2.out).mono ?_
    rintro e _ ⟨rfl, q7, rfl⟩
    have h7 := h6.drewN q7
    have hx7 := hx6.drewN q7
    have hB7 := below_drewN hB6 q7
    clear h6 hx6 hv26 hv36 hB6
    generalize w6.drewN q7 = w7 at *
    go_wp2_with fail
    refine (rank_at r4 h7 (by omega) HWN.out (HRK.out.trans hr4.out.symm)).mono ?_
    rintro e w8 ⟨rfl, hb8⟩
    have h8 := h7.below hb8
    have hx8 := hx7.below hb8
    have hB8 := hB7.trans (hb8.mono hB7.size)
    clear h7 hx7 hB7 hb8
    go_wp2_with fail
    refine (Times_c h8 B m cb x hx8 (by omega)).mono ?_
    rintro e w9 ⟨g9, rfl, ho9, hb9⟩
    have ht9 := Row.of_own ho9
    have h9 := h8.below hb9
    have hx9 := hx8.below hb9
    have hB9 := hB8.trans (hb9.mono hB8.size)
    clear h8 hx8 hB8 hb9 ho9
    go_wp2_with fail
    refine (RefTimes_c h9 B m cb x hx9 (by omega)).mono ?_
    rintro e w10 ⟨O, co, rfl, ho10, hb10⟩
    have ht10 := ht9.below hb10
    have hu10 := Row.of_own ho10
    have hB10 := hB9.trans (hb10.mono hB9.size)
    clear h9 hx9 hB9 hb10 ho10 ht9
    go_wp2_with fail
    refine (Same_c _ _ n _ _ _ _ w10 ht10 hu10 rfl).mono ?_
    rintro e _ ⟨rfl, q11, rfl⟩
    go_wp2
    go_ret
    exact ⟨rfl, below_drewN hB10 q11⟩
  · have HR := Lib.hid (decide_eq_false hr)
    have HR2 := Lib.hid hr
    have hrk : rankIn n RL R = 0 := by
      unfold rankIn
      rw [if_neg hr]
    have HRK := Lib.hid hrk
    clear hs hr hrk hw20
    go_enter Try.func3, Try.ntmps3
    go_wp2_with (first
      | (go_at_call 10; refine (alive03_c _).mono ?_; rintro e w1 ⟨rfl, hb1⟩; have h1 := h.below hb1; have hx1 := hx.below hb1)
      | (go_at_call 11; refine (small_at true h1 HS.out).mono ?_; rintro e w' ⟨rfl, rfl⟩))
    refine (Reduce_no h1 HR2.out cols).mono ?_
    rintro e _ ⟨rfl, rfl⟩
    go_wp2_with fail
    refine (RefReduce_no h1 HR2.out cols).mono ?_
    rintro e _ ⟨rfl, q2, rfl⟩
    have h2 := h1.drewN q2
    have hx2 := hx1.drewN q2
    have hB2 := below_drewN hb1 q2
    clear h h1 hx hx1 hb1
    generalize w1.drewN q2 = w2 at *
    go_wp2_with fail
    refine (RefReduce_no h2 HR2.out 20).mono ?_
    rintro e _ ⟨rfl, q3, rfl⟩
    have h4 := h2.drewN q3
    have hx4 := hx2.drewN q3
    have hB4 := below_drewN hB2 q3
    clear h2 hx2 hB2
    generalize w2.drewN q3 = w4 at *
    go_wp2_with fail
    refine (right_l false h4 HR.out).mono ?_
    rintro e _ ⟨rfl, rfl⟩
    go_wp2_with fail
    refine (right_at false h4 HR.out).mono ?_
    rintro e _ ⟨rfl, q5, rfl⟩
    have h5 := h4.drewN q5
    have hx5 := hx4.drewN q5
    have hB5 := below_drewN hB4 q5
    clear h4 hx4 hB4
    generalize w4.drewN q5 = w5 at *
    go_wp2_with fail
    refine (RefSame_c (MIn.none_ w5 none 0 (Nat.zero_le _) (fun _ => none) (fun _ => 0) (fun _ => 0) (fun _ => [])) (MIn.none_ w5 none 0 (Nat.zero_le _) (fun _ => none) (fun _ => 0) (fun _ => 0) (fun _ => [])) fun _ _ => rfl).mono ?_
    rintro e _ ⟨rfl, q6, rfl⟩
    have h6 := h5.drewN q6
    have hx6 := hx5.drewN q6
    have hB6 := below_drewN hB5 q6
    clear h5 hx5 hB5
    generalize w5.drewN q6 = w6 at *
    go_wp2_with fail
    refine (SameInts_c none none 0 0 0 [] w6 ⟨Nat.zero_le _, fun h => by omega⟩ ⟨Nat.zero_le _, fun h => by omega⟩ rfl).mono ?_
    rintro e _ ⟨rfl, q7, rfl⟩
    have h7 := h6.drewN q7
    have hx7 := hx6.drewN q7
    have hB7 := below_drewN hB6 q7
    clear h6 hx6 hB6
    generalize w6.drewN q7 = w7 at *
    go_wp2_with fail
    refine (rank_at 0 h7 (by omega) HWN.out HRK.out).mono ?_
    rintro e w8 ⟨rfl, hb8⟩
    have h8 := h7.below hb8
    have hx8 := hx7.below hb8
    have hB8 := hB7.trans (hb8.mono hB7.size)
    clear h7 hx7 hB7 hb8
    go_wp2_with fail
    refine (Times_c h8 B m cb x hx8 (by omega)).mono ?_
    rintro e w9 ⟨g9, rfl, ho9, hb9⟩
    have ht9 := Row.of_own ho9
    have h9 := h8.below hb9
    have hx9 := hx8.below hb9
    have hB9 := hB8.trans (hb9.mono hB8.size)
    clear h8 hx8 hB8 hb9 ho9
    go_wp2_with fail
    refine (RefTimes_c h9 B m cb x hx9 (by omega)).mono ?_
    rintro e w10 ⟨O, co, rfl, ho10, hb10⟩
    have ht10 := ht9.below hb10
    have hu10 := Row.of_own ho10
    have hB10 := hB9.trans (hb10.mono hB9.size)
    clear h9 hx9 hB9 hb10 ho10 ht9
    go_wp2_with fail
    refine (Same_c _ _ n _ _ _ _ w10 ht10 hu10 rfl).mono ?_
    rintro e _ ⟨rfl, q11, rfl⟩
    go_wp2
    go_ret
    exact ⟨rfl, below_drewN hB10 q11⟩
theorem walk_reds (HRR : Hid RefRed) (w : World) (A : Option Addr) (n cap : Nat) (RA : Nat → Option Addr) (RL RC : Nat → Nat) (R : Nat → List F) (h : MIn w A n cap RA RL RC R) (cols : Int) (B : Option Addr) (m cb : Nat) (x : List F) (hx : RowIn w B m cb x) :
    Calls Try.prog 3 #[.slice A n cap, .int .i64 cols, .slice B m cb] w fun e w' => e = .returned (.bool true) ∧ Below w.heap.size w w' := by
  by_cases hc : isS n RL ∧ m ≤ 30
  · exact reds_main HRR h cols B m cb x hx.row hc.1 hc.2
  · exact reds_less h cols B m cb hx.row.max hc
theorem refRed : RefRed := fun h hr cols hn hw => RefReduce_yes h hr cols hn hw
theorem walk_LinearReduces (w : World) (A : Option Addr) (n cap : Nat) (RA : Nat → Option Addr) (RL RC : Nat → Nat) (R : Nat → List F) (h : MIn w A n cap RA RL RC R) (cols : Int) (_ : (Lit.int .i64 cols).wf = true) (B : Option Addr) (m cb : Nat) (x : List F) (hx : RowIn w B m cb x) :
    Calls Try.prog 3 #[.slice A n cap, .int .i64 cols, .slice B m cb] w fun e w' => e = .returned (.bool true) ∧ Below w.heap.size w w' := walk_reds refRed w A n cap RA RL RC R h cols B m cb x hx
end
end Go.Proofs.Ytciljflnhleocaa
