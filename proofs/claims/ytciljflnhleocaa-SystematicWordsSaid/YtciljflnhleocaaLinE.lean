/-
  THE CONTRACTS OF PACKAGE linear: Reduce, Rank, Times. Rows and columns of at most 2^30.
-/
import Derived.Test.YtciljflnhleocaaLinD
import Derived.Deep.Onto
namespace Go.Proofs.Ytciljflnhleocaa
open Go.RowKit
set_option maxRecDepth 100000
set_option linter.unusedVariables false

/-- how many columns there are -/
def wid (n : Nat) (RL : Nat → Nat) : Nat := if n = 0 then 0 else RL 0
theorem isR.all {n : Nat} {RL : Nat → Nat} (h : isR n RL) : ∀ r, r < n → RL r = wid n RL := fun r hr => by
  unfold wid
  rw [if_neg (by omega), h r hr]
theorem width_w {w : World} {A : Option Addr} {n cap : Nat} {RA : Nat → Option Addr} {RL RC : Nat → Nat} {R : Nat → List F} (h : MIn w A n cap RA RL RC R) :
    Calls Try.prog 43 #[.slice A n cap] w fun e w' => e = .returned (.int .i64 (wid n RL : Nat)) ∧ w = w' := width_c h
theorem Reduced.mono {w' : World} {base base' lo hi g n C r pc : Nat} {P : Option Addr} {X : (Nat → Nat → F) × List Nat} (h : Reduced w' base lo hi g n C P r pc X) (hb : base' ≤ base) : Reduced w' base' lo hi g n C P r pc X := by
  obtain ⟨K', G', h1, h2, h3⟩ := h
  exact ⟨K', G', h1, h2.mono hb, h3⟩
set_option maxHeartbeats 1000000 in
theorem Reduce_no {w : World} {A : Option Addr} {n cap : Nat} {RA : Nat → Option Addr} {RL RC : Nat → Nat} {R : Nat → List F} (h : MIn w A n cap RA RL RC R) (hr : ¬ isR n RL) (cols : Int) :
    Calls Try.prog 12 #[.slice A n cap, .int .i64 cols] w fun e w' => e = .returned (.tuple #[.slice none 0 0, .slice none 0 0]) ∧ w = w' := by
  have h1 := Right_c h
  rw [decide_eq_false hr] at h1
  have H1 := Lib.hid h1
  clear h1 hr
  go_enter Try.func12, Try.ntmps12
  go_wp2_with (go_at_call 14; refine H1.out.mono ?_; rintro e w' ⟨rfl, rfl⟩)
  go_ret2
  exact ⟨rfl, rfl⟩
set_option maxHeartbeats 1000000 in
theorem Reduce_yes {w : World} {A : Option Addr} {n cap : Nat} {RA : Nat → Option Addr} {RL RC : Nat → Nat} {R : Nat → List F} (h : MIn w A n cap RA RL RC R) (hr : isR n RL) (cols : Int) (hn : n ≤ 1073741824) (hw : wid n RL ≤ 1073741824) :
    Calls Try.prog 12 #[.slice A n cap, .int .i64 cols] w fun e w' => ∃ g hi P r pc, e = .returned (.tuple #[.slice (some ⟨g, 0, none⟩) n n, .slice P r pc]) ∧
      Reduced w' w.heap.size w.heap.size hi g n (wid n RL) P r pc (redTo (mat R) n (min cols (wid n RL)).toNat) ∧ Below w.heap.size w w' := by
  have h1 := Right_c h
  rw [decide_eq_true hr] at h1
  have H1 := Lib.hid h1
  have HA := Lib.hid hr.all
  clear h1 hr
  obtain ⟨L, hL⟩ : ∃ L, L = wid n RL := ⟨_, rfl⟩
  have hwi := width_w h
  rw [← hL] at hwi HA hw ⊢
  have HW : Hid (∀ w', Below w.heap.size w w' → Calls Try.prog 43 #[.slice A n cap] w' fun e w'' => e = .returned (.int .i64 (L : Nat)) ∧ w' = w'') := fun w' hb => by
    have h2 := width_w (h.below hb)
    rw [← hL] at h2
    exact h2
  clear hL hwi
  obtain ⟨c, hc, hcL, hcc⟩ : ∃ c : Int, c = min cols L ∧ c ≤ L ∧ (c = cols ∨ c = L) := ⟨_, rfl, by omega, by omega⟩
  rw [← hc]
  go_enter Try.func12, Try.ntmps12
  go_wp2_with (go_at_call 14; refine H1.out.mono ?_; rintro e w' ⟨rfl, rfl⟩)
  refine (widened_c h HA.out 0 hn (by omega)).mono ?_
  rintro e w1 ⟨g, G, rfl, hM, hb1⟩
  rw [Nat.add_zero] at hM
  have hw1 := HW.out w1 hb1
  have hred := reduce_c hM (Nat.le_refl n) (by unfold maxLen; omega) c hcL (by omega) hn
  have HRED := Lib.hid hred
  by_cases hcl : cols ≤ L
  · have hcc2 : c = cols := by omega
    subst hcc2
    clear hc hcc hred hM
    go_wp2_with (go_at_call 43; refine hw1.mono ?_; rintro e w' ⟨rfl, rfl⟩)
    refine HRED.out.mono ?_
    rintro e w2 ⟨P, r, pc, rfl, hR, hb2⟩
    go_wp2
    go_ret2
    exact ⟨g, _, P, r, pc, rfl, hR.mono hb1.size, hb1.trans hb2⟩
  · have hcc2 : c = L := by omega
    subst hcc2
    have hcl2 : (L : Int) < cols := by omega
    clear hc hcc hred hM hcl
    go_wp2_with (go_at_call 43; refine hw1.mono ?_; rintro e w' ⟨rfl, rfl⟩)
    refine HRED.out.mono ?_
    rintro e w2 ⟨P, r, pc, rfl, hR, hb2⟩
    go_wp2
    go_ret2
    exact ⟨g, _, P, r, pc, rfl, hR.mono hb1.size, hb1.trans hb2⟩
/-- the rank of what came in: 0 of what is no matrix -/
def rankIn (n : Nat) (RL : Nat → Nat) (R : Nat → List F) : Nat := if isR n RL then rankF (mat R) n (wid n RL) else 0
theorem own_len' {w : World} {base n c : Nat} {e : TypeId} {A : Option Addr} {xs : List Value} (h : w.ownsRow base e 1 (.slice A n c) n xs) : n = xs.length := by have := h.1; omega
set_option maxHeartbeats 1000000 in
theorem Rank_c {w : World} {A : Option Addr} {n cap : Nat} {RA : Nat → Option Addr} {RL RC : Nat → Nat} {R : Nat → List F} (h : MIn w A n cap RA RL RC R) (hn : n ≤ 1073741824) (hw : wid n RL ≤ 1073741824) :
    Calls Try.prog 18 #[.slice A n cap] w fun e w' => e = .returned (.int .i64 (rankIn n RL R : Nat)) ∧ Below w.heap.size w w' := by
  have hwi := width_w h
  by_cases hr : isR n RL
  · have hred := Reduce_yes h hr (wid n RL : Nat) hn hw
    have hk : Hid ((redTo (mat R) n (min ((wid n RL : Nat) : Int) (wid n RL)).toNat).2.length = rankIn n RL R) := by
      unfold Hid rankIn rankF
      rw [if_pos hr, show (min ((wid n RL : Nat) : Int) (wid n RL)).toNat = wid n RL by omega]
    have hk2 : rankIn n RL R ≤ n := by rw [← hk.out]; exact (redTo_rref _ _ _).len
    generalize wid n RL = L at *
    have HRED := Lib.hid hred
    clear hred hr
    go_enter Try.func18, Try.ntmps18
    go_wp2_with (go_at_call 43; refine hwi.mono ?_; rintro e w' ⟨rfl, rfl⟩)
    refine HRED.out.mono ?_
    rintro e w2 ⟨g, hi, P, r, pc, rfl, ⟨K', G', hr1, hown, hM⟩, hb2⟩
    have hrk : r = rankIn n RL R := by rw [hr1.out, hk.out]
    have hr30 : r ≤ 1073741824 := by omega
    have HRK := Lib.hid hrk
    clear hrk hown hM
    go_wp2
    go_ret
    exact ⟨ret_i64 (by rw [HRK.out]), hb2⟩
  · have hred := Reduce_no h hr (wid n RL : Nat)
    have hk : Hid (rankIn n RL R = 0) := if_neg hr
    generalize wid n RL = L at *
    have HRED := Lib.hid hred
    clear hred hr
    rw [hk.out]
    go_enter Try.func18, Try.ntmps18
    go_wp2_with (go_at_call 43; refine hwi.mono ?_; rintro e w' ⟨rfl, rfl⟩)
    refine HRED.out.mono ?_
    rintro e _ ⟨rfl, rfl⟩
    go_wp2
    go_ret
    exact ⟨rfl, Below.refl _ _⟩
/-- rows' sums of products -/
def timesF (n : Nat) (RL : Nat → Nat) (R : Nat → List F) (x : List F) : List F := mkF (fun r => dotF (R r) x (min (RL r) x.length)) n
theorem timesF_length (n : Nat) (RL : Nat → Nat) (R : Nat → List F) (x : List F) : (timesF n RL R x).length = n := mkF_length _ _
set_option maxHeartbeats 1000000 in
theorem Times_c {w : World} {A : Option Addr} {n cap : Nat} {RA : Nat → Option Addr} {RL RC : Nat → Nat} {R : Nat → List F} (h : MIn w A n cap RA RL RC R) (B : Option Addr) (m cb : Nat) (x : List F) (hx : Row w B m x) (hn : n ≤ 1073741824) :
    Calls Try.prog 20 #[.slice A n cap, .slice B m cb] w fun e w' => ∃ g, e = .returned (.slice (some ⟨g, 0, none⟩) n n) ∧ w'.ownsRow w.heap.size 5 1 (.slice (some ⟨g, 0, none⟩) n n) n (cs (timesF n RL R x)) ∧ Below w.heap.size w w' := by
  obtain ⟨i0, hi, hz0, hz1, hz2⟩ := info_parts info_u8
  have HLX := Lib.hid hx.len
  go_enter Try.func20, Try.ntmps20
  go_wp2_with (at_make; refine wpList_make_full _ rfl _ _ 23 rfl w.heap.size 5 i0 (.int .u8 0) 1 Try.underlying23 hi hz0 hz1 _ _ _ _ n rfl rfl rfl rfl (by rw [hz2]; omega) (by unfold maxLen; omega) (Nat.le_refl _) ?_; intro w0 hown0 hgrow0)
  go_wp2
  go_loopw [13] (fun i wr => ∃ k : Nat, k ≤ n ∧ i = .int .i64 k ∧ wr.ownsRow w.heap.size 5 1 (.slice (some ⟨w.heap.size, 0, none⟩) n n) n (cs (part (timesF n RL R x) k)) ∧ Below w.heap.size w wr) (fun i _ => n - (intOf i).toNat)
  case atStart =>
    refine ⟨0, by omega, rfl, ?_, (Below.refl _ _).grown hgrow0 (Nat.le_refl _) (fun k h => by cases h)⟩
    rw [part_zero, timesF_length, cs_replicate]
    have e : madeCells (Value.int .u8 0).cells (n * 1) = madeCells #[.int .u8 0] n := by rw [Nat.mul_one]; rfl
    rw [e, toList_madeCells_one] at hown0
    exact hown0
  case round =>
    obtain ⟨k, hk, rfl, hown, hbel⟩ := hrel
    by_cases hlt : k < n
    · have hkn : (k : Int) < n := by omega
      have hM := h.below hbel
      obtain ⟨b, o, e, lb, qr⟩ := hM.at_ hlt
      subst e
      have hrow := (hM.row k hlt).row
      have hxr := hx.below hbel
      have hval : Hid (dotF (R k) x (min (RL k) m) = gt (timesF n RL R x) k) := by
        unfold Hid timesF
        rw [gt_mkF, if_pos hlt, HLX.out]
      go_wp2_with fail
      refine (Dot_c _ B (RL k) m (RC k) cb (R k) x wr hrow hxr).mono ?_
      rintro e _ ⟨rfl, q, rfl⟩
      have hown2 : (wr.drewN q).ownsRow w.heap.size 5 1 (.slice (some ⟨w.heap.size, 0, none⟩) n n) n (cs (part (timesF n RL R x) k)) := hown
      have hbel2 := below_drewN hbel q
      clear hown hbel hM qr hrow hxr hgrow0 hown0
      generalize wr.drewN q = w2 at *
      have hfz := hown2.frozenAt k
      have hl2 : Hid ((part (timesF n RL R x) k).length = n) := by unfold Hid; rw [part_length, timesF_length]
      have hc2 := hown2.cellAt k (by omega)
      rw [cs_at (by rw [hl2.out]; exact hlt)] at hc2
      rw [hval.out]
      have hst := Lib.hid (hown2.stored k (.int .u8 (gt (timesF n RL R x) k).n)).1
      go_wp2
      go_roundw
      case rel =>
        refine ⟨k + 1, by omega, by go_num, ?_, hbel2.setCell (Nat.le_refl _) _⟩
        have hs := hst.out
        rw [cs_set, part_set _ _ (by rw [timesF_length]; exact hlt)] at hs
        exact hs
      case measure => simp [intOf]; omega
    · have hk2 : Hid (part (timesF n RL R x) k = timesF n RL R x) := by
        unfold Hid
        rw [show k = (timesF n RL R x).length by rw [timesF_length]; omega, part_all]
      go_wp2
      go_ret
      refine ⟨_, rfl, ?_, hbel⟩
      rw [hk2.out] at hown
      exact hown
end Go.Proofs.Ytciljflnhleocaa
