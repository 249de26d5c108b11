/-
  LAW 03's WALK: LinearTimes: it returns true, and writes nothing that was there. No conditions.
-/
import Derived.Test.YteeinbijblcgcaaLaw03b
namespace Go.Proofs.Yteeinbijblcgcaa
open Go.RowKit
set_option linter.unusedVariables false

set_option maxHeartbeats 1000000 in
theorem times_less {w : World} {A : Option Addr} {n cap : Nat} {RA : Nat → Option Addr} {RL RC : Nat → Nat} {R : Nat → List F} (h : MIn w A n cap RA RL RC R) (B D : Option Addr) (m cb k cd : Nat) (hm : m ≤ 9223372036854775807) (hk : k ≤ 9223372036854775807)
    (hc : ¬ (isS n RL ∧ isR n RL ∧ n ≠ 0 ∧ m = RL 0 ∧ k = m)) :
    Calls Try.prog 8 #[.slice A n cap, .slice B m cb, .slice D k cd] w fun e w' => e = .returned (.bool true) ∧ Below w.heap.size w w' := by
  have hnm := h.nmax
  by_cases hs : isS n RL
  · have HS := Lib.hid (decide_eq_true hs)
    by_cases hr : isR n RL
    · have HR := Lib.hid (decide_eq_true hr)
      by_cases hn : n = 0
      · subst hn
        clear hc hs hr
        go_enter Try.func8, Try.ntmps8
        go_wp2_with (first
          | (go_at_call 13; refine (alive03_c _).mono ?_; rintro e w1 ⟨rfl, hb1⟩; have h1 := h.below hb1)
          | (go_at_call 14; refine (small_at true h1 HS.out).mono ?_; rintro e w' ⟨rfl, rfl⟩)
          | (go_at_call 18; refine (right_at true h1 HR.out).mono ?_; rintro e w' ⟨rfl, q, rfl⟩))
        go_ret
        exact ⟨rfl, below_drewN hb1 q⟩
      · have hd : ((m : Int) != (RL 0 : Int)) = true ∨ (((m : Int) != (RL 0 : Int)) = false ∧ ((k : Int) != (m : Int)) = true) := by
          by_cases e : m = RL 0
          · right
            refine ⟨by rw [e]; simp, ?_⟩
            rw [bne_iff_ne]
            intro e2
            exact hc ⟨hs, hr, hn, e, by omega⟩
          · left
            rw [bne_iff_ne]
            omega
        have e0 : ((n : Int) == 0) = false := by rw [beq_eq_false_iff_ne]; omega
        have hn0 : (0 : Int) < n := by omega
        obtain ⟨b', o', rfl, lb, q0⟩ := h.at_ (r := 0) (by omega)
        rw [Nat.add_zero] at q0
        have hk3 : RL 0 ≤ 9223372036854775807 := (h.row 0 (by omega)).row.max
        clear hc hs hr hn
        rcases hd with hd | ⟨hd, hd2⟩
        all_goals
          go_enter Try.func8, Try.ntmps8
          go_wp2_with (first
            | (go_at_call 13; refine (alive03_c _).mono ?_; rintro e w1 ⟨rfl, hb1⟩; have h1 := h.below hb1; have q1 := (hb1.cell (p := ⟨b', o', none⟩) lb).trans q0)
            | (go_at_call 14; refine (small_at true h1 HS.out).mono ?_; rintro e w' ⟨rfl, rfl⟩)
            | (go_at_call 18; refine (right_at true h1 HR.out).mono ?_; rintro e w' ⟨rfl, q, rfl⟩))
          go_ret
          exact ⟨rfl, below_drewN hb1 q⟩
    · have HR := Lib.hid (decide_eq_false hr)
      clear hc hs hr
      go_enter Try.func8, Try.ntmps8
      go_wp2_with (first
        | (go_at_call 13; refine (alive03_c _).mono ?_; rintro e w1 ⟨rfl, hb1⟩; have h1 := h.below hb1)
        | (go_at_call 14; refine (small_at true h1 HS.out).mono ?_; rintro e w' ⟨rfl, rfl⟩)
        | (go_at_call 18; refine (right_at false h1 HR.out).mono ?_; rintro e w' ⟨rfl, q, rfl⟩))
      go_ret
      exact ⟨rfl, below_drewN hb1 q⟩
  · have HS := Lib.hid (decide_eq_false hs)
    clear hc hs
    go_enter Try.func8, Try.ntmps8
    go_wp2_with (first
      | (go_at_call 13; refine (alive03_c _).mono ?_; rintro e w1 ⟨rfl, hb1⟩; have h1 := h.below hb1)
      | (go_at_call 14; refine (small_at false h1 HS.out).mono ?_; rintro e w' ⟨rfl, rfl⟩))
    go_ret
    exact ⟨rfl, hb1⟩
/-- a unit as a row -/
def unitL (m p : Nat) : List F := (List.replicate m 0).set p 1
theorem unitL_length (m p : Nat) : (unitL m p).length = m := by simp [unitL]
theorem gt_unitL {m p : Nat} (hp : p < m) (j : Nat) : gt (unitL m p) j = eU p j := by
  unfold unitL eU
  rw [gt_set _ _ _ _ (by simpa using hp), gt_replicate]
theorem times_unit {n L : Nat} {RL : Nat → Nat} {R : Nat → List F} {p : Nat} (hL : ∀ r, r < n → RL r = L) (hp : p < L) {r : Nat} (hr : r < n) : gt (timesF n RL R (unitL L p)) r = gt (R r) p := by
  rw [gt_times hL (unitL_length _ _) hr, dt_congr (x' := eU p) (fun _ _ => rfl) (fun j _ => gt_unitL hp j), dt_unit _ hp]
  rfl
/-- the sum of two rows -/
def sumL (x y : List F) (k : Nat) : List F := mkF (fun i => gt x i + gt y i) k
theorem times_sum {n L : Nat} {RL : Nat → Nat} {R : Nat → List F} {x y : List F} (hL : ∀ r, r < n → RL r = L) (hx : x.length = L) (hy : y.length = L) {r : Nat} (hr : r < n) :
    gt (timesF n RL R (sumL x y L)) r = gt (timesF n RL R x) r + gt (timesF n RL R y) r := by
  rw [gt_times hL (x := sumL x y L) (mkF_length _ _) hr, gt_times hL hx hr, gt_times hL hy hr, ← dt_add_right]
  refine dt_congr (fun _ _ => rfl) fun j hj => ?_
  unfold sumL
  rw [gt_mkF, if_pos hj]
set_option maxHeartbeats 8000000 in
set_option maxRecDepth 100000 in
theorem times_main {w : World} {A : Option Addr} {n cap : Nat} {RA : Nat → Option Addr} {RL RC : Nat → Nat} {R : Nat → List F} (h : MIn w A n cap RA RL RC R) (B D : Option Addr) (m cb cd : Nat) (x y : List F) (hx : Row w B m x) (hy : Row w D m y)
    (hs : isS n RL) (hr : isR n RL) (hn : n ≠ 0) (hm : m = RL 0) :
    Calls Try.prog 8 #[.slice A n cap, .slice B m cb, .slice D m cd] w fun e w' => e = .returned (.bool true) ∧ Below w.heap.size w w' := by
  obtain ⟨i0, hi, hz0, hz1, hz2⟩ := info_parts info_u8
  have HS := Lib.hid (decide_eq_true hs)
  have HR := Lib.hid (decide_eq_true hr)
  have hn20 := hs.1
  have hm20 : m ≤ 20 := by rw [hm]; exact hs.2 0 (by omega)
  have hall := hr.all
  have hwm : wid n RL = m := by unfold wid; rw [if_neg hn, hm]
  rw [hwm] at hall
  have HL := Lib.hid hall
  have e0 : ((n : Int) == 0) = false := by rw [beq_eq_false_iff_ne]; omega
  have hn0 : (0 : Int) < n := by omega
  obtain ⟨b', o', rfl, lb, q0⟩ := h.at_ (r := 0) (by omega)
  rw [Nat.add_zero, ← hm] at q0
  have hne : ((m : Int) != (m : Int)) = false := by simp
  have HLX := Lib.hid hx.len
  have HLY := Lib.hid hy.len
  clear hs hr hn hm hall hwm
  go_enter Try.func8, Try.ntmps8
  go_wp2_with (first
    | (go_at_call 13; refine (alive03_c _).mono ?_; rintro e w1 ⟨rfl, hb1⟩; have h1 := h.below hb1; have q1 := (hb1.cell (p := ⟨b', o', none⟩) lb).trans q0)
    | (go_at_call 14; refine (small_at true h1 HS.out).mono ?_; rintro e w' ⟨rfl, rfl⟩)
    | (go_at_call 18; refine (right_at true h1 HR.out).mono ?_; rintro e w' ⟨rfl, q, rfl⟩))
  have hb2 := below_drewN hb1 q
  have h2 := h1.drewN q
  have hx2 := (hx.below hb1).drewN q
  have hy2 := (hy.below hb1).drewN q
  have HSZ : Hid ((w1.drewN q).heap.size = w1.heap.size) := rfl
  clear q0 q1 h h1 hx hy hb1
  generalize w1.drewN q = w2 at *
  go_loopw [7, 50] (fun vs i wr => ∃ (p : Nat) (S : Option Addr) (cS : Nat), p ≤ m ∧ i = .int .i64 p ∧ vs = .slice S p cS ∧ wr.ownsRow w2.heap.size 5 1 (.slice S p cS) p (cs (sumL x y p)) ∧ Below w2.heap.size w2 wr) (fun _ i _ => m - (intOf i).toNat)
  case atStart => exact ⟨0, _, 0, by omega, rfl, rfl, (by
    have h := World.ownsRow_made (e := 5) (size := 1) w2 #[] 0 (Nat.le_refl _) (Nat.zero_le _) rfl
    rw [HSZ.out] at h ⊢
    exact h), (Below.refl _ _).alloc (Nat.le_refl _) _⟩
  case round =>
    obtain ⟨p, S, cS, hp, rfl, rfl, hown, hbel⟩ := hrel
    by_cases hlt : p < m
    · obtain ⟨b1, o1, ex, l1, q1⟩ := hx2.at_ hlt
      obtain ⟨b2, o2, ey, l2, q2⟩ := hy2.at_ hlt
      subst ex ey
      replace q1 := (hbel.cell (p := ⟨b1, o1 + p, none⟩) l1).trans q1
      replace q2 := (hbel.cell (p := ⟨b2, o2 + p, none⟩) l2).trans q2
      have hpm : (p : Int) < m := by omega
      have hx3 := bits_xor (gt x p) (gt y p)
      have ag1 : some b1 ≠ (Value.slice S p cS).ownBlock := fun e => by have := (hown.lt b1 e.symm).1; omega
      have ag2 : some b2 ≠ (Value.slice S p cS).ownBlock := fun e => by have := (hown.lt b2 e.symm).1; omega
      have lW := hbel.size
      go_wp2
      go_region_held3 (fun w' => w'.cell? ⟨b1, o1 + p, none⟩ = some (.int .u8 (gt x p).n) ∧ w'.cell? ⟨b2, o2 + p, none⟩ = some (.int .u8 (gt y p).n))
        (first
          | go_keep
          | (go_split_ands
             refine ⟨?_, ?_⟩
             · (rw [hgrow.cell_far _ (by simp; omega) ag1]; assumption)
             · (rw [hgrow.cell_far _ (by simp; omega) ag2]; assumption)))
        ((refine step_append_lies _ (by rfl) _ _ _ (by rfl) w2.heap.size 5 i0 _ 1 1 Try.underlying23 hi hz0 hz1 hz2 rfl (by omega) (.slice S p cS) p (cs (sumL x y p)) (by rfl) ((hown.alloc _).drew)
            ⟨wr.heap.size, 0, none⟩ 1 1 [.int .u8 (gt x p + gt y p).n] (by rfl) (by rfl) (World.news_of_block (cs := #[.int .u8 (gt x p + gt y p).n]) (t := 5) (fr := (0, 0)) (heap_alloc_new wr _)) (by simp [Value.oneCell'])
            (by omega) (by unfold maxLen; omega) (by omega) (by simp; omega) (wr.heap.size + 1) (by simp) ?_; intro gg capS w3 hown3 hgrow hat hlt3))
      have hb3 : Below w2.heap.size w2 w3 := ((hbel.alloc hbel.size _).drew).grown hgrow (by simp; omega) (fun g hg => (hown.lt g hg).1)
      have hsum3 : w3.ownsRow w2.heap.size 5 1 (.slice (some ⟨gg, 0, none⟩) (p + 1) capS) (p + 1) (cs (sumL x y (p + 1))) := by
        show w3.ownsRow _ _ _ _ _ (cs (mkF (fun i => gt x i + gt y i) p ++ [gt x p + gt y p]))
        rw [cs_append]
        exact hown3
      clear hown hbel q1 q2 hx3 ag1 ag2 hown3 hgrow hat lW
      go_wp2_with (at_make; refine wpList_make_full _ rfl _ _ 23 rfl w3.heap.size 5 i0 (.int .u8 0) 1 Try.underlying23 hi hz0 hz1 _ _ _ _ m rfl rfl rfl rfl (by rw [hz2]; omega) (by unfold maxLen; omega) (Nat.le_refl _) ?_; intro w4 hown4 hgrow4; have hown4' := part_cells w4 w3.heap.size m (List.replicate m 0) (by simp) hown4; have fz4 := hown4'.frozenAt p; have hc4 := hown4'.cellAt p (by omega); rw [cs_at (by rw [part_length]; simpa using hlt)] at hc4)
      have hst := (hown4'.stored p (.int .u8 (1 : F).n)).1
      rw [cs_set, part_zero, List.length_replicate] at hst
      have hE : Row (w4.setCell ⟨w3.heap.size, p, none⟩ (.int .u8 1)) (some ⟨w3.heap.size, 0, none⟩) m (unitL m p) := Row.of_own hst
      have hb4 : Below w2.heap.size w2 w4 := hb3.grown hgrow4 hb3.size (fun z e => by cases e)
      have hb5 : Below w2.heap.size w2 (w4.setCell ⟨w3.heap.size, p, none⟩ (.int .u8 1)) := hb4.setCell (by exact hb3.size) _
      have hsum5 : (w4.setCell ⟨w3.heap.size, p, none⟩ (.int .u8 1)).ownsRow w2.heap.size 5 1 (.slice (some ⟨gg, 0, none⟩) (p + 1) capS) (p + 1) (cs (sumL x y (p + 1))) :=
        (hsum3.kept hgrow4 (.inr (by simp [Value.ownBlock]))).kept (setCell_grown w4 w3.heap.size p (.int .u8 1)) (.inr (by simp [Value.ownBlock]; omega))
      have h5 := h2.below hb5
      clear hst hown4 hown4' fz4 hc4 hgrow4 hb4 hb3 hsum3
      generalize w4.setCell ⟨w3.heap.size, p, none⟩ (.int .u8 1) = w5 at *
      refine (Times_c h5 _ m m (unitL m p) hE (by omega)).mono ?_
      rintro e w6 ⟨g6, rfl, ho6, hb6⟩
      have hcol := Row.of_own ho6
      have hsum6 := own_below hsum5 hb6
      have hB6 := hb5.trans (hb6.mono hb5.size)
      have h6 := h5.below hb6
      clear ho6 hb6 hE h5 hsum5 hb5
      go_wp2
      go_loopw [76] (fun i wr2 => ∃ k q : Nat, k ≤ n ∧ i = .int .i64 k ∧ Hid (wr2 = w6.drewN q)) (fun i _ => n - (intOf i).toNat)
      case atStart => exact ⟨0, 0, by omega, rfl, rfl⟩
      case round =>
        obtain ⟨k, q3, hk, rfl, hw⟩ := hrel
        by_cases hlk : k < n
        · have hkn : (k : Int) < n := by omega
          have hkn2 : decide ((n : Int) ≤ (k : Int)) = false := by simp; omega
          have hkn3 : decide (n ≤ k) = false := by simp; omega
          have hkn4 : ¬ n ≤ k := by omega
          have hkn5 : ¬ (n : Int) ≤ (k : Int) := by omega
          have h7 := h6.drewN q3
          have hcol7 := hcol.drewN q3
          rw [← hw.out] at h7 hcol7
          obtain ⟨b3, o3, e3, _, q4⟩ := h7.at_ hlk
          injection e3 with e3
          injection e3 with e3 e4
          subst e3 e4
          have hRk := HL.out k hlk
          rw [hRk] at q4
          obtain ⟨b4, o4, e4, _, q5⟩ := (hcol7.at_ hlk)
          injection e4 with e4
          injection e4 with e4 e5
          subst e4 e5
          rw [Nat.zero_add, times_unit HL.out hlt hlk] at q5
          obtain ⟨b5, o5, e5, _, q6⟩ := (h7.row k hlk).row.at_ (k := p) (by rw [hRk]; exact hlt)
          rw [e5] at q4
          have hnn : (((gt (R k) p).n : Int) != ((gt (R k) p).n : Int)) = false := by simp
          clear h7 hRk e5 hcol7
          go_wp2
          go_region_held3 (fun w' => w'.cell? ⟨g6, k, none⟩ = some (.int .u8 (gt (R k) p).n) ∧ w'.cell? ⟨b', o' + k, none⟩ = some (.slice (some ⟨b5, o5, none⟩) m (RC k)) ∧ w'.cell? ⟨b5, o5 + p, none⟩ = some (.int .u8 (gt (R k) p).n)) (go_keep) (fail)
          go_wp2
          go_roundw
          case rel => exact ⟨k + 1, q3 + 1, by omega, by go_num, by unfold Hid; rw [hw.out]; rfl⟩
          case measure => simp [intOf]; omega
        · obtain rfl : k = n := by omega
          have hsum7 : wr.ownsRow w2.heap.size 5 1 (.slice (some ⟨gg, 0, none⟩) (p + 1) capS) (p + 1) (cs (sumL x y (p + 1))) := by rw [hw.out]; exact hsum6
          have hB7 : Below w2.heap.size w2 wr := by rw [hw.out]; exact below_drewN hB6 q3
          clear hsum6 hcol
          go_wp2
          go_roundw
          case rel => exact ⟨p + 1, _, capS, by omega, by go_num, rfl, hsum7, hB7⟩
          case measure => simp [intOf]; omega
    · obtain rfl : p = m := by omega
      have hS := Row.of_own hown
      have h3 := h2.below hbel
      have hx3 := hx2.below hbel
      have hy3 := hy2.below hbel
      have hB3 := hb2.trans (hbel.mono hb2.size)
      clear hown hbel hb2 h2 hx2 hy2
      go_wp2_with fail
      refine (Times_c h3 _ p cb x hx3 (by omega)).mono ?_
      rintro e w4 ⟨g4, rfl, ho4, hb4⟩
      have ha4 := Row.of_own ho4
      have h4 := h3.below hb4
      have hy4 := hy3.below hb4
      have hS4 := hS.below hb4
      have hB4 := hB3.trans (hb4.mono hB3.size)
      clear ho4 hb4 h3 hx3 hy3 hS hB3
      go_wp2_with fail
      refine (Times_c h4 _ p cd y hy4 (by omega)).mono ?_
      rintro e w5 ⟨g5, rfl, ho5, hb5⟩
      have hb5' := Row.of_own ho5
      have h5 := h4.below hb5
      have ha5 := ha4.below hb5
      have hS5 := hS4.below hb5
      have hB5 := hB4.trans (hb5.mono hB4.size)
      clear ho5 hb5 h4 hy4 ha4 hS4 hB4
      go_wp2_with fail
      refine (Times_c h5 _ p cS (sumL x y p) hS5 (by omega)).mono ?_
      rintro e w6 ⟨g6, rfl, ho6, hb6⟩
      have hc6 := Row.of_own ho6
      have ha6 := ha5.below hb6
      have hb6' := hb5'.below hb6
      have hB6 := hB5.trans (hb6.mono hB5.size)
      clear ho6 hb6 h5 ha5 hb5' hS5 hB5
      have hnl : ((n : Int) != (n : Int)) = false := by simp
      go_wp2
      go_loopw [129] (fun i wr2 => ∃ k q : Nat, k ≤ n ∧ i = .int .i64 k ∧ Hid (wr2 = w6.drewN q)) (fun i _ => n - (intOf i).toNat)
      case atStart => exact ⟨0, 0, by omega, rfl, rfl⟩
      case round =>
        obtain ⟨k, q3, hk, rfl, hw⟩ := hrel
        by_cases hlk : k < n
        · have hkn : (k : Int) < n := by omega
          have ha7 := ha6.drewN q3
          have hb7 := hb6'.drewN q3
          have hc7 := hc6.drewN q3
          rw [← hw.out] at ha7 hb7 hc7
          obtain ⟨b4, o4, e4, _, q4⟩ := ha7.at_ hlk
          obtain ⟨b5, o5, e5, _, q5⟩ := hb7.at_ hlk
          obtain ⟨b6, o6, e6, _, q6⟩ := hc7.at_ hlk
          clear ha7 hb7 hc7
          injection e4 with e4
          injection e4 with e4 e4'
          subst e4 e4'
          injection e5 with e5
          injection e5 with e5 e5'
          subst e5 e5'
          injection e6 with e6
          injection e6 with e6 e6'
          subst e6 e6'
          rw [Nat.zero_add] at q4 q5 q6
          rw [times_sum HL.out HLX.out HLY.out hlk] at q6
          have hxr := bits_xor (gt (timesF n RL R x) k) (gt (timesF n RL R y) k)
          generalize gt (timesF n RL R x) k = va at *
          generalize gt (timesF n RL R y) k = vb at *
          have hnn : (((va + vb).n : Int) != ((va + vb).n : Int)) = false := by simp
          go_wp2
          go_region_held3 (fun w' => w'.cell? ⟨g4, k, none⟩ = some (.int .u8 va.n) ∧ w'.cell? ⟨g5, k, none⟩ = some (.int .u8 vb.n) ∧ w'.cell? ⟨g6, k, none⟩ = some (.int .u8 (va + vb).n)) (go_keep) (fail)
          go_wp2
          go_roundw
          case rel => exact ⟨k + 1, q3 + 1, by omega, by go_num, by unfold Hid; rw [hw.out]; rfl⟩
          case measure => simp [intOf]; omega
        · obtain rfl : k = n := by omega
          go_wp2
          go_ret
          exact ⟨rfl, by rw [hw.out]; exact below_drewN hB6 q3⟩
theorem walk_LinearTimes (w : World) (A : Option Addr) (n cap : Nat) (RA : Nat → Option Addr) (RL RC : Nat → Nat) (R : Nat → List F) (h : MIn w A n cap RA RL RC R) (B : Option Addr) (m cb : Nat) (x : List F) (hx : RowIn w B m cb x) (D : Option Addr) (k cd : Nat) (y : List F) (hy : RowIn w D k cd y) :
    Calls Try.prog 8 #[.slice A n cap, .slice B m cb, .slice D k cd] w fun e w' => e = .returned (.bool true) ∧ Below w.heap.size w w' := by
  by_cases hc : isS n RL ∧ isR n RL ∧ n ≠ 0 ∧ m = RL 0 ∧ k = m
  · obtain ⟨hs, hr, hn, hm, rfl⟩ := hc
    exact times_main h B D k cb cd x y hx.row hy.row hs hr hn hm
  · exact times_less h B D m cb k cd hx.row.max hy.row.max hc
end Go.Proofs.Yteeinbijblcgcaa
