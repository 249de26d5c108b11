/-
  LAW 03's WALK: LinearInverse: it returns true, and writes nothing that was there. No conditions.
-/
import Derived.Test.YteeinbijblcgcaaLaw03c
import Derived.Test.YteeinbijblcgcaaLaw03d
namespace Go.Proofs.Yteeinbijblcgcaa
open Go.RowKit
set_option linter.unusedVariables false

theorem IsInv.congr {n : Nat} {M E E' : Nat → Nat → F} (h : IsInv n M E) (e : ∀ i, i < n → ∀ j, j < n → E i j = E' i j) : IsInv n M E' := fun x y => (h x y).trans
  ⟨fun k i hi => (dt_congr (fun j hj => (e i hi j hj).symm) (fun _ _ => rfl)).trans (k i hi), fun k i hi => (dt_congr (fun j hj => e i hi j hj) (fun _ _ => rfl)).trans (k i hi)⟩
theorem inv_behind {n : Nat} {R : Nat → List F} (hl : (redTo (augI n (mat R)) n n).2.length = n) : IsInv n (mat R) (mat (behind n (redTo (augI n (mat R)) n n).1)) :=
  (inv_of_red (mat R) hl).congr fun i hi j hj => by
    show _ = gt (mkF _ n) j
    rw [gt_mkF, if_pos hj]
theorem inv_times {n : Nat} {RL RL' : Nat → Nat} {R R' : Nat → List F} {x : List F} (hi : IsInv n (mat R) (mat R')) (hL : ∀ r, r < n → RL r = n) (hL' : ∀ r, r < n → RL' r = n) (hx : x.length = n) :
    timesF n RL' R' (timesF n RL R x) = x := by
  refine ext_gt (by rw [timesF_length, hx]) fun i hi' => ?_
  rw [timesF_length] at hi'
  rw [gt_times hL' (timesF_length _ _ _ _) hi']
  exact (hi (gt x) (gt (timesF n RL R x))).1 (fun i h => (gt_times hL hx h).symm) i hi'
theorem inv_back {n : Nat} {R I : Nat → List F} (hl : ∀ r, r < n → (R r).length = n) (hi : IsInv n (mat R) (mat I)) :
    (redTo (augI n (mat I)) n n).2.length = n ∧ ∀ r, r < n → behind n (redTo (augI n (mat I)) n n).1 r = R r := by
  have h1 : (redTo (augI n (mat I)) n n).2.length = n := by rw [pivots_augI]; exact hi.symm.rank
  refine ⟨h1, fun r hr => ?_⟩
  have h2 := (inv_behind h1).symm.unique hi
  refine ext_gt (by rw [hl r hr]; exact mkF_length _ _) fun j hj => ?_
  have e : (behind n (redTo (augI n (mat I)) n n).1 r).length = n := mkF_length _ _
  rw [e] at hj
  exact h2 r hr j hj
theorem rank_sq {n : Nat} {RL : Nat → Nat} {R : Nat → List F} (hr : isR n RL) (hnw : n = wid n RL) : rankIn n RL R = (redTo (augI n (mat R)) n n).2.length := by
  unfold rankIn
  rw [if_pos hr, ← hnw, pivots_augI]
  rfl
theorem wid_self (n : Nat) : n = wid n (fun _ => n) := by
  unfold wid
  by_cases h : n = 0
  · rw [if_pos h]; exact h
  · rw [if_neg h]
section
variable {w : World} {A : Option Addr} {n cap : Nat} {RA : Nat → Option Addr} {RL RC : Nat → Nat} {R : Nat → List F}
set_option maxHeartbeats 1000000 in
theorem inv_less (h : MIn w A n cap RA RL RC R) (hc : ¬ (isS n RL ∧ n ≤ 12)) :
    Calls Try.prog 6 #[.slice A n cap] w fun e w' => e = .returned (.bool true) ∧ Below w.heap.size w w' := by
  have hnm := h.nmax
  by_cases hs : isS n RL
  · have HS := Lib.hid (decide_eq_true hs)
    have hn : (12 : Int) < n := by
      have : ¬ n ≤ 12 := fun e => hc ⟨hs, e⟩
      omega
    clear hc hs
    go_enter Try.func6, Try.ntmps6
    go_wp2_with (first
      | (go_at_call 13; refine (alive03_c _).mono ?_; rintro e w1 ⟨rfl, hb1⟩; have h1 := h.below hb1)
      | (go_at_call 14; refine (small_at true h1 HS.out).mono ?_; rintro e w' ⟨rfl, rfl⟩))
    go_ret
    exact ⟨rfl, hb1⟩
  · have HS := Lib.hid (decide_eq_false hs)
    clear hc hs
    go_enter Try.func6, Try.ntmps6
    go_wp2_with (first
      | (go_at_call 13; refine (alive03_c _).mono ?_; rintro e w1 ⟨rfl, hb1⟩; have h1 := h.below hb1)
      | (go_at_call 14; refine (small_at false h1 HS.out).mono ?_; rintro e w' ⟨rfl, rfl⟩))
    go_ret
    exact ⟨rfl, hb1⟩
set_option maxHeartbeats 1000000 in
theorem inv_none (h : MIn w A n cap RA RL RC R) (hs : isS n RL) (hn : n ≤ 12) (hc : ¬ (isR n RL ∧ n = wid n RL)) :
    Calls Try.prog 6 #[.slice A n cap] w fun e w' => e = .returned (.bool true) ∧ Below w.heap.size w w' := by
  have HS := Lib.hid (decide_eq_true hs)
  have HC := Lib.hid hc
  have hn12 : ¬ (12 : Int) < n := by omega
  have HWM : Hid (wid n RL ≤ 9223372036854775807) := by
    unfold Hid wid
    split
    · omega
    · exact (h.row 0 (by omega)).row.max
  by_cases hr : isR n RL
  · have HR := Lib.hid (decide_eq_true hr)
    have hz : n ≠ 0 := fun e => hc ⟨hr, by subst e; rfl⟩
    have hd : ((RL 0 : Int) == (n : Int)) = false := by
      rw [beq_eq_false_iff_ne]
      intro e
      refine hc ⟨hr, ?_⟩
      unfold wid
      rw [if_neg hz]
      omega
    have e0 : ((n : Int) == 0) = false := by rw [beq_eq_false_iff_ne]; omega
    have hn0 : (0 : Int) < n := by omega
    obtain ⟨b', o', rfl, lb, q0⟩ := h.at_ (r := 0) (by omega)
    rw [Nat.add_zero] at q0
    have hk3 : RL 0 ≤ 9223372036854775807 := (h.row 0 (by omega)).row.max
    clear hc hs hr hz
    go_enter Try.func6, Try.ntmps6
    go_wp2_with (first
      | (go_at_call 13; refine (alive03_c _).mono ?_; rintro e w1 ⟨rfl, hb1⟩; have h1 := h.below hb1; have q1 := (hb1.cell (p := ⟨b', o', none⟩) lb).trans q0)
      | (go_at_call 14; refine (small_at true h1 HS.out).mono ?_; rintro e w' ⟨rfl, rfl⟩)
      | (go_at_call 27; refine (Inverse_no h1 HC.out HWM.out).mono ?_; rintro e w' ⟨rfl, rfl⟩)
      | (go_at_call 18; refine (right_at true h1 HR.out).mono ?_; rintro e w' ⟨rfl, q, rfl⟩))
    go_ret
    exact ⟨rfl, below_drewN hb1 q⟩
  · have HR := Lib.hid (decide_eq_false hr)
    clear hc hs hr
    go_enter Try.func6, Try.ntmps6
    go_wp2_with (first
      | (go_at_call 13; refine (alive03_c _).mono ?_; rintro e w1 ⟨rfl, hb1⟩; have h1 := h.below hb1)
      | (go_at_call 14; refine (small_at true h1 HS.out).mono ?_; rintro e w' ⟨rfl, rfl⟩)
      | (go_at_call 27; refine (Inverse_no h1 HC.out HWM.out).mono ?_; rintro e w' ⟨rfl, rfl⟩)
      | (go_at_call 18; refine (right_at false h1 HR.out).mono ?_; rintro e w' ⟨rfl, q, rfl⟩))
    go_ret
    exact ⟨rfl, below_drewN hb1 q⟩
theorem rank_at (k : Nat) (h : MIn w A n cap RA RL RC R) (hn : n ≤ 1073741824) (hw : wid n RL ≤ 1073741824) (hk : rankIn n RL R = k) :
    Calls Try.prog 21 #[.slice A n cap] w fun e w' => e = .returned (.int .i64 k) ∧ Below w.heap.size w w' := by
  subst hk; exact Rank_c h hn hw
set_option maxHeartbeats 4000000 in
set_option maxRecDepth 100000 in
theorem inv_main (h : MIn w A n cap RA RL RC R) (hs : isS n RL) (hn : n ≤ 12) (hr : isR n RL) (hnw : n = wid n RL) :
    Calls Try.prog 6 #[.slice A n cap] w fun e w' => e = .returned (.bool true) ∧ Below w.heap.size w w' := by
  obtain ⟨i0, hi, hz0, hz1, hz2⟩ := info_parts info_u8
  have HS := Lib.hid (decide_eq_true hs)
  have HR := Lib.hid (decide_eq_true hr)
  have HR2 := Lib.hid hr
  have HW := Lib.hid hnw
  have hall := hr.all
  rw [← hnw] at hall
  have HL := Lib.hid hall
  have hrk := rank_sq (R := R) hr hnw
  have HLEN : Hid (∀ r, r < n → (R r).length = n) := fun r hr => by rw [(h.row r hr).row.len, hall r hr]
  have hn12 : ¬ (12 : Int) < n := by omega
  have enn : ((n : Int) == (n : Int)) = true := by simp
  have hq : (((n : Int) == 0) = true) ∨ (((n : Int) == 0) = false ∧ (0 : Int) < n ∧ ∃ b' o', A = some ⟨b', o', none⟩ ∧ b' < w.heap.size ∧ w.cell? ⟨b', o', none⟩ = some (.slice (RA 0) n (RC 0))) := by
    by_cases hz : n = 0
    · left; subst hz; rfl
    · right
      obtain ⟨b', o', e, lb, q0⟩ := h.at_ (r := 0) (by omega)
      rw [Nat.add_zero, hall 0 (by omega)] at q0
      exact ⟨by rw [beq_eq_false_iff_ne]; omega, by omega, b', o', e, lb, q0⟩
  clear hs hr hnw hall
  rcases hq with e0 | ⟨e0, hn0, b', o', rfl, lb, q0⟩
  all_goals
    go_enter Try.func6, Try.ntmps6
    go_wp2_with (first
      | (go_at_call 13; refine (alive03_c _).mono ?_; rintro e w1 ⟨rfl, hb1⟩; have h1 := h.below hb1; first | have q1 := (hb1.cell (p := ⟨b', o', none⟩) lb).trans q0 | skip)
      | (go_at_call 14; refine (small_at true h1 HS.out).mono ?_; rintro e w' ⟨rfl, rfl⟩))
    refine (Inverse_yes h1 HR2.out HW.out (by omega)).mono ?_
    rintro e w2 ⟨hres, hb2⟩
    have h2 := h1.below hb2
    first | have q2 := (hb2.cell (p := ⟨b', o', none⟩) (Nat.lt_of_lt_of_le lb hb1.size)).trans q1 | skip
    have hB2 := hb1.trans (hb2.mono hb1.size)
    have hwn : wid n RL ≤ 1073741824 := by rw [← HW.out]; omega
    have HWN := Lib.hid hwn
    clear hwn
    rcases hres with ⟨hl, g, RI, KI, rfl, hI2⟩ | ⟨hl, rfl⟩
    · have HRK := Lib.hid (hrk.trans hl)
      have hinv := inv_behind hl
      have HB := Lib.hid (inv_back HLEN.out hinv)
      generalize behind n (redTo (augI n (mat R)) n n).1 = I at *
      have HINV := Lib.hid hinv
      clear hrk hl hb1 hb2 h h1 hinv
      go_wp2_with (first
        | (go_at_call 18; refine (right_at true h2 HR.out).mono ?_; rintro e w' ⟨rfl, q, rfl⟩)
        | (go_at_call 21; refine (rank_at n (h2.drewN q) (by omega) HWN.out HRK.out).mono ?_; rintro e w3 ⟨rfl, hb3⟩))
      have h3 := (h2.drewN q).below hb3
      have hI3 := (hI2.drewN q).below hb3
      have hB3 := (below_drewN hB2 q).trans (hb3.mono (below_drewN hB2 q).size)
      clear h2 hI2 hB2 hb3
      first | clear q1 q2 q0 lb | skip
      go_loopw [57] (fun i wr => ∃ p : Nat, p ≤ n ∧ i = .int .i64 p ∧ Below w3.heap.size w3 wr) (fun i _ => n - (intOf i).toNat)
      case atStart => exact ⟨0, by omega, rfl, Below.refl _ _⟩
      case round =>
        obtain ⟨p, hp, rfl, hbel⟩ := hrel
        by_cases hlt : p < n
        · have hpn : (p : Int) < n := by omega
          have h4 := h3.below hbel
          have hI4 := hI3.below hbel
          go_wp2_with (at_make; refine wpList_make_full _ rfl _ _ 23 rfl wr.heap.size 5 i0 (.int .u8 0) 1 Try.underlying23 hi hz0 hz1 _ _ _ _ n rfl rfl rfl rfl (by rw [hz2]; omega) (by unfold maxLen; omega) (Nat.le_refl _) ?_; intro w5 hown5 hgrow5; have hown5' := part_cells w5 wr.heap.size n (List.replicate n 0) (by simp) hown5; have fz5 := hown5'.frozenAt p; have hc5 := hown5'.cellAt p (by omega); rw [cs_at (by rw [part_length]; simpa using hlt)] at hc5)
          have hst := (hown5'.stored p (.int .u8 (1 : F).n)).1
          rw [cs_set, part_zero, List.length_replicate] at hst
          have hE : Row (w5.setCell ⟨wr.heap.size, p, none⟩ (.int .u8 1)) (some ⟨wr.heap.size, 0, none⟩) n (unitL n p) := Row.of_own hst
          have hb5 : Below wr.heap.size wr w5 := (Below.refl _ _).grown hgrow5 (Nat.le_refl _) (fun z e => by cases e)
          have hb6 : Below wr.heap.size wr (w5.setCell ⟨wr.heap.size, p, none⟩ (.int .u8 1)) := hb5.setCell (by exact Nat.le_refl _) _
          have h6 := h4.below hb6
          have hI6 := hI4.below hb6
          have hB6 := hbel.trans (hb6.mono hbel.size)
          clear hst hown5 hown5' fz5 hc5 hgrow5 hb5 hb6 h4 hI4 hbel
          generalize w5.setCell ⟨wr.heap.size, p, none⟩ (.int .u8 1) = w6 at *
          go_wp2_with fail
          refine (Times_c hI6 _ n n (unitL n p) hE (by omega)).mono ?_
          rintro e w7 ⟨g7, rfl, ho7, hb7⟩
          have hy7 := Row.of_own ho7
          have hE7 := hE.below hb7
          have h7 := h6.below hb7
          have hI7 := hI6.below hb7
          have hB7 := hB6.trans (hb7.mono hB6.size)
          clear ho7 hb7 hE h6 hI6 hB6
          go_wp2_with fail
          refine (Times_c h7 _ n n _ hy7 (by omega)).mono ?_
          rintro e w8 ⟨g8, rfl, ho8, hb8⟩
          have hy8 := Row.of_own ho8
          rw [inv_times HINV.out.symm (fun _ _ => rfl) HL.out (unitL_length n p)] at hy8
          have hE8 := hE7.below hb8
          have h8 := h7.below hb8
          have hI8 := hI7.below hb8
          have hB8 := hB7.trans (hb8.mono hB7.size)
          clear ho8 hb8 hE7 h7 hI7 hB7 hy7
          go_wp2_with fail
          refine (Same_c _ _ n n n _ _ w8 hy8 hE8 rfl).mono ?_
          rintro e _ ⟨rfl, q9, rfl⟩
          have h9 := h8.drewN q9
          have hI9 := hI8.drewN q9
          have hE9 := hE8.drewN q9
          have hB9 := below_drewN hB8 q9
          clear h8 hI8 hE8 hB8 hy8
          generalize w8.drewN q9 = w9 at *
          go_wp2_with fail
          refine (Times_c h9 _ n n (unitL n p) hE9 (by omega)).mono ?_
          rintro e w10 ⟨g10, rfl, ho10, hb10⟩
          have hy10 := Row.of_own ho10
          have hE10 := hE9.below hb10
          have hI10 := hI9.below hb10
          have hB10 := hB9.trans (hb10.mono hB9.size)
          clear ho10 hb10 hE9 h9 hI9 hB9
          go_wp2_with fail
          refine (Times_c hI10 _ n n _ hy10 (by omega)).mono ?_
          rintro e w11 ⟨g11, rfl, ho11, hb11⟩
          have hy11 := Row.of_own ho11
          rw [inv_times HINV.out HL.out (fun _ _ => rfl) (unitL_length n p)] at hy11
          have hE11 := hE10.below hb11
          have hB11 := hB10.trans (hb11.mono hB10.size)
          clear ho11 hb11 hE10 hI10 hB10 hy10
          go_wp2_with fail
          refine (Same_c _ _ n n n _ _ w11 hy11 hE11 rfl).mono ?_
          rintro e _ ⟨rfl, q12, rfl⟩
          have hB12 := below_drewN hB11 q12
          clear hB11 hy11 hE11
          generalize w11.drewN q12 = w12 at *
          go_wp2
          go_roundw
          case rel => exact ⟨p + 1, by omega, by go_num, hB12⟩
          case measure => simp [intOf]; omega
        · obtain rfl : p = n := by omega
          have h4 := h3.below hbel
          have hI4 := hI3.below hbel
          have hB4 := hB3.trans (hbel.mono hB3.size)
          clear h3 hI3 hB3 hbel
          go_wp2_with fail
          refine (Inverse_yes hI4 (fun _ _ => rfl) (wid_self p) (by omega)).mono ?_
          rintro e w5 ⟨hres, hb5⟩
          rcases hres with ⟨_, g5, RA5, RC5, rfl, hK5⟩ | ⟨hl, _⟩
          · have h5 := h4.below hb5
            have hB5 := hB4.trans (hb5.mono hB4.size)
            clear h4 hI4 hB4 hb5
            go_wp2_with fail
            refine (RefSame_c hK5 h5 HB.out.2).mono ?_
            rintro e _ ⟨rfl, q6, rfl⟩
            go_wp2
            go_ret
            exact ⟨rfl, below_drewN hB5 q6⟩
          · have := HB.out.1
            omega
    · have hrl : rankIn n RL R < n := by rw [hrk]; exact hl
      have hrl2 : ((rankIn n RL R : Int) == (n : Int)) = false := by rw [beq_eq_false_iff_ne]; omega
      generalize hrkn : rankIn n RL R = rk at *
      have HRK := Lib.hid hrkn
      clear hrk hl hb1 hb2 h h1 hrkn
      go_wp2_with (first
        | (go_at_call 18; refine (right_at true h2 HR.out).mono ?_; rintro e w' ⟨rfl, q, rfl⟩)
        | (go_at_call 21; refine (rank_at rk (h2.drewN q) (by omega) HWN.out HRK.out).mono ?_; rintro e w3 ⟨rfl, hb3⟩))
      go_ret
      exact ⟨rfl, (below_drewN hB2 q).trans (hb3.mono (below_drewN hB2 q).size)⟩
theorem walk_LinearInverse (w : World) (A : Option Addr) (n cap : Nat) (RA : Nat → Option Addr) (RL RC : Nat → Nat) (R : Nat → List F) (h : MIn w A n cap RA RL RC R) :
    Calls Try.prog 6 #[.slice A n cap] w fun e w' => e = .returned (.bool true) ∧ Below w.heap.size w w' := by
  by_cases h1 : isS n RL ∧ n ≤ 12
  · by_cases h2 : isR n RL ∧ n = wid n RL
    · exact inv_main h h1.1 h1.2 h2.1 h2.2
    · exact inv_none h h1.1 h1.2 h2
  · exact inv_less h h1
end
end Go.Proofs.Yteeinbijblcgcaa
