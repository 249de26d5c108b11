/-
  LAW 03's WALK: LinearFinds: it returns true, and writes nothing that was there. No conditions.
-/
import Derived.Test.YteeinbijblcgcaaLaw03a
import Derived.Test.YteeinbijblcgcaaLaw04a
namespace Go.Proofs.Yteeinbijblcgcaa
open Go.RowKit
set_option linter.unusedVariables false

section
variable {w : World} {A : Option Addr} {n cap : Nat} {RA : Nat → Option Addr} {RL RC : Nat → Nat} {R : Nat → List F}
theorem small_at (b : Bool) (h : MIn w A n cap RA RL RC R) (hb : decide (isS n RL) = b) : Calls Try.prog 14 #[.slice A n cap] w fun e w' => e = .returned (.bool b) ∧ w = w' := by
  subst hb; exact small_c h
theorem right_at (b : Bool) (h : MIn w A n cap RA RL RC R) (hb : decide (isR n RL) = b) : Calls Try.prog 18 #[.slice A n cap] w fun e w' => e = .returned (.bool b) ∧ ∃ q, w' = w.drewN q := by
  subst hb; exact RefRight_c h
end
set_option maxHeartbeats 1000000 in
theorem finds_less {w : World} {A : Option Addr} {n cap : Nat} {RA : Nat → Option Addr} {RL RC : Nat → Nat} {R : Nat → List F} (h : MIn w A n cap RA RL RC R) (B D : Option Addr) (m cb k cd : Nat) (hm : m ≤ 9223372036854775807)
    (hc : ¬ (isS n RL ∧ isR n RL ∧ n ≠ 0 ∧ m = RL 0)) :
    Calls Try.prog 5 #[.slice A n cap, .slice B m cb, .slice D k cd] w fun e w' => e = .returned (.bool true) ∧ Below w.heap.size w w' := by
  have hnm := h.nmax
  by_cases hs : isS n RL
  · have HS := Lib.hid (decide_eq_true hs)
    by_cases hr : isR n RL
    · have HR := Lib.hid (decide_eq_true hr)
      by_cases hn : n = 0
      · subst hn
        clear hc hs hr
        go_enter Try.func5, Try.ntmps5
        go_wp2_with (first
          | (go_at_call 13; refine (alive03_c _).mono ?_; rintro e w1 ⟨rfl, hb1⟩; have h1 := h.below hb1)
          | (go_at_call 14; refine (small_at true h1 HS.out).mono ?_; rintro e w' ⟨rfl, rfl⟩)
          | (go_at_call 18; refine (right_at true h1 HR.out).mono ?_; rintro e w' ⟨rfl, q, rfl⟩))
        go_ret
        exact ⟨rfl, below_drewN hb1 q⟩
      · have hne : ((m : Int) != (RL 0 : Int)) = true := by
          rw [bne_iff_ne]
          intro e
          exact hc ⟨hs, hr, hn, by omega⟩
        have e0 : ((n : Int) == 0) = false := by rw [beq_eq_false_iff_ne]; omega
        have hn0 : (0 : Int) < n := by omega
        obtain ⟨b', o', rfl, lb, q0⟩ := h.at_ (r := 0) (by omega)
        rw [Nat.add_zero] at q0
        have hk3 : RL 0 ≤ 9223372036854775807 := (h.row 0 (by omega)).row.max
        clear hc hs hr hn
        go_enter Try.func5, Try.ntmps5
        go_wp2_with (first
          | (go_at_call 13; refine (alive03_c _).mono ?_; rintro e w1 ⟨rfl, hb1⟩; have h1 := h.below hb1; have q1 := (hb1.cell (p := ⟨b', o', none⟩) lb).trans q0)
          | (go_at_call 14; refine (small_at true h1 HS.out).mono ?_; rintro e w' ⟨rfl, rfl⟩)
          | (go_at_call 18; refine (right_at true h1 HR.out).mono ?_; rintro e w' ⟨rfl, q, rfl⟩))
        go_ret
        exact ⟨rfl, below_drewN hb1 q⟩
    · have HR := Lib.hid (decide_eq_false hr)
      clear hc hs hr
      go_enter Try.func5, Try.ntmps5
      go_wp2_with (first
        | (go_at_call 13; refine (alive03_c _).mono ?_; rintro e w1 ⟨rfl, hb1⟩; have h1 := h.below hb1)
        | (go_at_call 14; refine (small_at true h1 HS.out).mono ?_; rintro e w' ⟨rfl, rfl⟩)
        | (go_at_call 18; refine (right_at false h1 HR.out).mono ?_; rintro e w' ⟨rfl, q, rfl⟩))
      go_ret
      exact ⟨rfl, below_drewN hb1 q⟩
  · have HS := Lib.hid (decide_eq_false hs)
    clear hc hs
    go_enter Try.func5, Try.ntmps5
    go_wp2_with (first
      | (go_at_call 13; refine (alive03_c _).mono ?_; rintro e w1 ⟨rfl, hb1⟩; have h1 := h.below hb1)
      | (go_at_call 14; refine (small_at false h1 HS.out).mono ?_; rintro e w' ⟨rfl, rfl⟩))
    go_ret
    exact ⟨rfl, hb1⟩
set_option maxHeartbeats 4000000 in
set_option maxRecDepth 100000 in
theorem finds_main {w : World} {A : Option Addr} {n cap : Nat} {RA : Nat → Option Addr} {RL RC : Nat → Nat} {R : Nat → List F} (h : MIn w A n cap RA RL RC R) (B D : Option Addr) (m cb k cd : Nat) (x rt : List F) (hx : Row w B m x) (hrt : Row w D k rt)
    (hs : isS n RL) (hr : isR n RL) (hn : n ≠ 0) (hm : m = RL 0) :
    Calls Try.prog 5 #[.slice A n cap, .slice B m cb, .slice D k cd] w fun e w' => e = .returned (.bool true) ∧ Below w.heap.size w w' := by
  have HS := Lib.hid (decide_eq_true hs)
  have HR := Lib.hid (decide_eq_true hr)
  have HR2 := Lib.hid hr
  have hn20 := hs.1
  have hm20 : m ≤ 20 := by rw [hm]; exact hs.2 0 (by omega)
  have hall := hr.all
  have hwm : wid n RL = m := by unfold wid; rw [if_neg hn, hm]
  have HW := Lib.hid hwm
  rw [hwm] at hall
  have HL := Lib.hid hall
  have hkm := hrt.max
  have e0 : ((n : Int) == 0) = false := by rw [beq_eq_false_iff_ne]; omega
  have hn0 : (0 : Int) < n := by omega
  obtain ⟨b', o', rfl, lb, q0⟩ := h.at_ (r := 0) (by omega)
  rw [Nat.add_zero, ← hm] at q0
  have hne : ((m : Int) != (m : Int)) = false := by simp
  have HLX := Lib.hid hx.len
  clear hs hr hn hm hall hwm
  go_enter Try.func5, Try.ntmps5
  go_wp2_with (first
    | (go_at_call 13; refine (alive03_c _).mono ?_; rintro e w1 ⟨rfl, hb1⟩; have h1 := h.below hb1; have q1 := (hb1.cell (p := ⟨b', o', none⟩) lb).trans q0)
    | (go_at_call 14; refine (small_at true h1 HS.out).mono ?_; rintro e w' ⟨rfl, rfl⟩)
    | (go_at_call 18; refine (right_at true h1 HR.out).mono ?_; rintro e w' ⟨rfl, q, rfl⟩))
  have hb2 := below_drewN hb1 q
  have h2 := h1.drewN q
  have hx2 := (hx.below hb1).drewN q
  have hr2 := (hrt.below hb1).drewN q
  clear q0 q1 h h1 hx hrt hb1
  generalize w1.drewN q = w2 at *
  refine (Times_c h2 B m cb x hx2 (by omega)).mono ?_
  rintro e w3 ⟨g3, rfl, ho3, hb3⟩
  have hs3 := Row.of_own ho3
  have h3 := h2.below hb3
  have hr3 := hr2.below hb3
  have hB3 := hb2.trans (hb3.mono hb2.size)
  clear ho3 hb3 hb2 h2 hx2 hr2
  go_wp2_with fail
  refine (Solve_yes h3 _ n _ hs3 HR2.out (by omega) (by rw [HW.out]; omega)).mono ?_
  rintro e w4 ⟨hres, hb4⟩
  rw [HW.out] at hres
  have hcons : Cons (redTo (augC m (mat R) (gt (timesF n RL R x))) n m) n m := cons_times HL.out HLX.out
  rcases hres with ⟨_, g4, y, rfl, ho4, hsol⟩ | ⟨hno, _⟩
  · have hly := own_len ho4
    have hty := Lib.hid (times_sol HL.out hly (timesF_length _ _ _ _) hsol hcons)
    have hy4 := Row.of_own ho4
    have hs4 := hs3.below hb4
    have h4 := h3.below hb4
    have hr4 := hr3.below hb4
    have hB4 := hB3.trans (hb4.mono hB3.size)
    clear ho4 hb4 hB3 h3 hs3 hr3 hcons hly hsol
    go_wp2_with fail
    refine (Times_c h4 _ m m y hy4 (by omega)).mono ?_
    rintro e w5 ⟨g5, rfl, ho5, hb5⟩
    have ht5 := Row.of_own ho5
    rw [hty.out] at ht5
    have hs5 := hs4.below hb5
    have h5 := h4.below hb5
    have hr5 := hr4.below hb5
    have hB5 := hB4.trans (hb5.mono hB4.size)
    clear ho5 hb5 hB4 h4 hs4 hr4 hy4 hty
    go_wp2_with fail
    refine (Same_c _ _ n n n _ _ w5 ht5 hs5 rfl).mono ?_
    rintro e _ ⟨rfl, q6, rfl⟩
    have hs6 := hs5.drewN q6
    have h6 := h5.drewN q6
    have hr6 := hr5.drewN q6
    have hB6 := below_drewN hB5 q6
    clear ht5 hs5 h5 hr5 hB5
    generalize w5.drewN q6 = w6 at *
    by_cases hk : k = n
    · subst hk
      go_wp2_with fail
      refine (Solve_yes h6 D cd rt hr6 HR2.out (by omega) (by rw [HW.out]; omega)).mono ?_
      rintro e w7 ⟨hres, hb7⟩
      rw [HW.out] at hres
      have hs7 := hs6.below hb7
      have h7 := h6.below hb7
      have hr7 := hr6.below hb7
      have hB7 := hB6.trans (hb7.mono hB6.size)
      rcases hres with ⟨hc, g7, z, rfl, ho7, hsol⟩ | ⟨hno, rfl⟩
      · have hlz := own_len ho7
        have htz := Lib.hid (times_sol HL.out hlz hr7.len hsol hc)
        have hz7 := Row.of_own ho7
        clear ho7 hb7 hB6 h6 hs6 hr6 hc hlz hsol
        go_wp2_with fail
        refine (Times_c h7 _ m m z hz7 (by omega)).mono ?_
        rintro e w8 ⟨g8, rfl, ho8, hb8⟩
        have ht8 := Row.of_own ho8
        rw [htz.out] at ht8
        have hr8 := hr7.below hb8
        have hB8 := hB7.trans (hb8.mono hB7.size)
        clear ho8 hb8 hB7 h7 hs7 hr7 hz7 htz
        go_wp2_with fail
        refine (Same_c _ D k k cd _ _ w8 ht8 hr8 rfl).mono ?_
        rintro e _ ⟨rfl, q9, rfl⟩
        go_wp2
        go_ret
        exact ⟨rfl, below_drewN hB8 q9⟩
      · have hdif : decide (timesF k RL R x = rt) = false := by
          rw [decide_eq_false_iff_not]
          intro e
          refine hno ?_
          rw [← e]
          exact cons_times HL.out HLX.out
        have HDIF := Lib.hid hdif
        clear hb7 hB6 h6 hs6 hr6 hno hdif
        go_wp2_with fail
        have hsd := Same_d _ D k k cd _ _ w7 hs7 hr7
        rw [HDIF.out] at hsd
        refine hsd.mono ?_
        rintro e _ ⟨rfl, q9, rfl⟩
        go_wp2
        go_ret
        exact ⟨rfl, below_drewN hB7 q9⟩
    · have HNO := Lib.hid (show ¬ (isR n RL ∧ n = k) from fun e => hk e.2.symm)
      have HK := Lib.hid hk
      clear hk
      go_wp2_with fail
      refine (Solve_no h6 D k cd HNO.out hkm).mono ?_
      rintro e _ ⟨rfl, rfl⟩
      go_wp2_with fail
      refine (Same_len _ D n k n cd w6 (fun e => HK.out e.symm) (by omega) hkm).mono ?_
      rintro e _ ⟨rfl, rfl⟩
      go_wp2
      go_ret
      exact ⟨rfl, hB6⟩
  · exact absurd hcons hno
theorem walk_LinearFinds (w : World) (A : Option Addr) (n cap : Nat) (RA : Nat → Option Addr) (RL RC : Nat → Nat) (R : Nat → List F) (h : MIn w A n cap RA RL RC R) (B : Option Addr) (m cb : Nat) (x : List F) (hx : RowIn w B m cb x) (D : Option Addr) (k cd : Nat) (rt : List F) (hr : RowIn w D k cd rt) :
    Calls Try.prog 5 #[.slice A n cap, .slice B m cb, .slice D k cd] w fun e w' => e = .returned (.bool true) ∧ Below w.heap.size w w' := by
  by_cases hc : isS n RL ∧ isR n RL ∧ n ≠ 0 ∧ m = RL 0
  · exact finds_main h B D m cb k cd x rt hx.row hr.row hc.1 hc.2.1 hc.2.2.1 hc.2.2.2
  · exact finds_less h B D m cb k cd hx.row.max hc
end Go.Proofs.Yteeinbijblcgcaa
