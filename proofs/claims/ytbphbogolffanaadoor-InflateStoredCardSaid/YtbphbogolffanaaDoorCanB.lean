/-
  THE CONTRACTS OF canon.firstCodes, full, wrong, Codes. No conditions.
-/
import Derived.Test.YtbphbogolffanaaDoorCanA
namespace Go.Proofs.YtbphbogolffanaaDoor
open Go.RowKit
set_option maxRecDepth 100000
set_option linter.unusedVariables false

theorem results_cell_one {P : Program} {fn : Func} {p : Tmp} {ty : TypeId} (h : fn.results = #[.cell p ty]) (tmps : Array Value) (w : World) :
    (results fn tmps).run P w = ((asAddr (tmps.getD p undef)).run P w).andThen fun a w₁ => (loadVar ty a).run P w₁ := by
  simp only [results, h]
  simp [Sem.run_bind, Result.andThen]
theorem cN_step {l : List Int} {k a : Nat} (ha : gi l k = (a : Int)) (h0 : 0 < a) (m : Nat) : cN l (k + 1) m = if m = a then cN l k a + 1 else cN l k m := by
  unfold cN
  rw [show cL l m (k + 1) = cL l m k + if gi l k = (m : Int) then 1 else 0 from rfl]
  by_cases e : m = a
  · subst e
    have h0' : ¬ m = 0 := by omega
    rw [if_neg h0', if_neg h0', if_pos rfl, if_pos ha]
  · rw [if_neg e, if_neg (c := gi l k = (m : Int)) (by omega)]
    rfl
theorem cN_skip {l : List Int} {k : Nat} (ha : gi l k = 0) (m : Nat) : cN l (k + 1) m = cN l k m := by
  unfold cN
  rw [show cL l m (k + 1) = cL l m k + if gi l k = (m : Int) then 1 else 0 from rfl]
  by_cases e : m = 0
  · rw [if_pos e, if_pos e]
  · rw [if_neg e, if_neg e, if_neg (by omega)]
    rfl
theorem cN_le (l : List Int) (k m : Nat) : cN l k m ≤ k := by
  unfold cN
  split
  · omega
  · exact cL_le l m k
theorem index_a16 (f : Nat → Nat) (w : World) {j : Nat} (hj : j < 16) : Sem.run Tryd.prog (Instr.index 124 (.agg (us f 16).toArray) (.int .i64 (j : Int))) w = .ok (.int .u32 ((f j : Nat) : Int)) w := by
  have h : j = 0 ∨ j = 1 ∨ j = 2 ∨ j = 3 ∨ j = 4 ∨ j = 5 ∨ j = 6 ∨ j = 7 ∨ j = 8 ∨ j = 9 ∨ j = 10 ∨ j = 11 ∨ j = 12 ∨ j = 13 ∨ j = 14 ∨ j = 15 := by omega
  rcases h with rfl | rfl | rfl | rfl | rfl | rfl | rfl | rfl | rfl | rfl | rfl | rfl | rfl | rfl | rfl | rfl
  all_goals rfl
/-- the first codes that are told by now -/
def fT (l : List Int) (k j : Nat) : Nat → Nat := fun i => if i ≤ j then fK l k i else 0
theorem fT_step (l : List Int) (k j i : Nat) (hi : i < 17) : fT l k (j + 1) i = if i = j + 1 then 2 * (fK l k j + cN l k j) else fT l k j i := by
  unfold fT
  by_cases e : i = j + 1
  · subst e
    rw [if_pos (Nat.le_refl _), if_pos rfl]
    rfl
  · rw [if_neg e]
    by_cases e2 : i ≤ j
    · rw [if_pos e2, if_pos (by omega)]
    · rw [if_neg e2, if_neg (by omega)]
set_option maxHeartbeats 2000000 in
theorem firstCodes_c (A : Option Addr) (n c : Nat) (l : List Int) (w : World) (h : IRow w A n .i64 l) (hr : RightL l) (hn : n ≤ 288) :
    Calls Tryd.prog 75 #[.slice A n c] w fun e w' => e = .returned (.agg (us (fK l n) 17).toArray) ∧ Below w.heap.size w w' := by
  have hz1 := zero_a17
  have hz2 := zero_a16
  have hlen := h.len
  have HRI : Hid (∀ i, i < n → 0 ≤ gi l i ∧ gi l i ≤ 15) := by unfold Hid; rw [← hlen]; exact hr
  have HFS : Hid (∀ j, j ≤ 15 → fK l n j + cN l n j ≤ 4718592) := by unfold Hid; rw [← hlen]; exact fun j hj => fK_small hr (by omega) j hj
  clear hr hlen
  go_enter Tryd.func75, Tryd.ntmps75
  go_wp2
  go_loopw [10] (fun i wr => ∃ k : Nat, k ≤ n ∧ i = .int .i64 k ∧ Blk wr w.heap.size 107 (us (fun _ => 0) 17).toArray ∧ Blk wr (w.heap.size + 1) 124 (us (fun m => cN l k m) 16).toArray ∧ Below w.heap.size w wr) (fun i _ => n - (intOf i).toNat)
  case atStart =>
    have h0 : us (fun m => cN l 0 m) 16 = us (fun _ => 0) 16 := us_congr fun i hi => by unfold cN cL; split <;> rfl
    refine ⟨0, by omega, rfl, ?_, ?_, ?_⟩
    · exact (Blk.new w _ _).below (by simp) ((Below.refl _ _).alloc (Nat.le_refl _) _)
    · rw [h0]
      have h1 := Blk.new (w.alloc (.cells (us (fun _ => 0) 17).toArray 107)) 124 (us (fun _ => 0) 16).toArray
      simpa using h1
    · exact ((Below.refl _ _).alloc (Nat.le_refl _) _).alloc (by simp) _
  case round =>
    obtain ⟨k, hk, rfl, hb1, hb2, hbel⟩ := hrel
    by_cases hlt : k < n
    · have hkn : (k : Int) < n := by omega
      have h1 := h.below hbel
      obtain ⟨b1, o1, rfl, _, q1⟩ := h1.at_ hlt
      have hg := HRI.out k hlt
      obtain ⟨a, ha⟩ : ∃ a : Nat, gi l k = a := ⟨(gi l k).toNat, by omega⟩
      rw [ha] at q1
      by_cases ha0 : 0 < a
      · have ha16 : (a : Int) < 16 := by omega
        have hai : (0 : Int) < (a : Int) := by omega
        have hc := hb2.cell a
        rw [List.getElem?_toArray, us_at _ (by omega)] at hc
        have hf := hb2.frozen a
        have hle := cN_le l k a
        have hst := Lib.hid (hb2.set_ a (.int .u32 ((cN l k a + 1 : Nat) : Int)))
        have hb1' := Lib.hid (hb1.setOther (a := Addr.mk (w.heap.size + 1) a none) (by simp) (.int .u32 ((cN l k a + 1 : Nat) : Int)))
        have HN := Lib.hid (fun m (_ : m < 16) => cN_step ha ha0 m)
        have HBEL := Lib.hid (hbel.setCell (p := Addr.mk (w.heap.size + 1) a none) (by simp) (.int .u32 ((cN l k a + 1 : Nat) : Int)))
        obtain ⟨x, hx⟩ : ∃ x, x = cN l k a := ⟨_, rfl⟩
        have HX := Lib.hid hx
        rw [← hx] at hc hle hst hb1' HBEL
        clear hx
        go_wp2
        go_roundw
        case rel =>
          refine ⟨k + 1, by omega, by go_num, hb1'.out, ?_, HBEL.out⟩
          have h1 := hst.out
          rw [List.setIfInBounds_toArray, us_set (g := fun m => cN l (k + 1) m) (fun i hi => by rw [HN.out i hi, HX.out])] at h1
          exact h1
        case measure => simp [intOf]; omega
      · obtain rfl : a = 0 := by omega
        have HN : Hid (us (fun m => cN l (k + 1) m) 16 = us (fun m => cN l k m) 16) := us_congr fun m _ => cN_skip ha m
        go_wp2
        go_roundw
        case rel => exact ⟨k + 1, by omega, by go_num, hb1, by rw [HN.out]; exact hb2, hbel⟩
        case measure => simp [intOf]; omega
    · obtain rfl : k = n := by omega
      have hld := load_a16 wr (w.heap.size + 1) _ hb2
      go_wp2_with (with_reducible refine wpList_load_var (w.heap.size + 1) _ rfl hld ?_)
      go_loopw [23] (fun i wr => ∃ j : Nat, j ≤ 16 ∧ i = .int .i64 j ∧ Blk wr w.heap.size 107 (us (fT l k j) 17).toArray ∧ Below w.heap.size w wr) (fun i _ => 16 - (intOf i).toNat)
      case atStart =>
        have h0 : us (fT l k 0) 17 = us (fun _ => 0) 17 := us_congr fun i hi => by
          unfold fT
          split
          · rw [show i = 0 by omega]; rfl
          · rfl
        exact ⟨0, by omega, rfl, by rw [h0]; exact hb1, hbel⟩
      case round =>
        clear hb1 hb2 hbel hld
        obtain ⟨j, hj, rfl, hb1, hbel⟩ := hrel
        by_cases hlj : j < 16
        · have hji : (j : Int) < 16 := by omega
          have hc := hb1.cell j
          rw [List.getElem?_toArray, us_at _ (by omega)] at hc
          have hf := hb1.frozen (j + 1)
          have hix := fun W => index_a16 (fun m => cN l k m) W hlj
          have hfs := HFS.out j (by omega)
          have hc2 := hb1.cell (j + 1)
          rw [List.getElem?_toArray, us_at _ (by omega)] at hc2
          have hfj : Hid (fT l k j j = fK l k j) := if_pos (Nat.le_refl _)
          rw [hfj.out] at hc
          have hst := Lib.hid (hb1.set_ (j + 1) (.int .u32 ((2 * (fK l k j + cN l k j) : Nat) : Int)))
          have HT := Lib.hid (fun i hi => fT_step l k j i hi)
          have HBEL := Lib.hid (hbel.setCell (p := Addr.mk w.heap.size (j + 1) none) (by simp) (.int .u32 ((2 * (fK l k j + cN l k j) : Nat) : Int)))
          obtain ⟨x, hx⟩ : ∃ x, x = fK l k j := ⟨_, rfl⟩
          obtain ⟨y, hy⟩ : ∃ y, y = cN l k j := ⟨_, rfl⟩
          rw [← hx] at hc hfs hst HBEL
          rw [← hy] at hfs hst HBEL
          simp only [← hy] at hix
          have HX := Lib.hid hx
          have HY := Lib.hid hy
          obtain ⟨m, hm⟩ : ∃ m, m = j + 1 := ⟨_, rfl⟩
          have hmi : IntKind.i64.wrap ((j : Int) + 1) = (m : Int) := (IntWalk.i64_in _ (by omega)).trans (by omega)
          have hm17 : (m : Int) < 17 := by omega
          rw [← hm] at hf hst HBEL hc2
          have HM := Lib.hid hm
          clear hx hy hm
          go_wp2
          go_roundw
          case rel =>
            refine ⟨j + 1, by omega, by rw [HM.out], ?_, HBEL.out⟩
            have h1 := hst.out
            rw [List.setIfInBounds_toArray, us_set (g := fT l k (j + 1)) (fun i hi => by rw [HT.out i hi, HM.out, HX.out, HY.out])] at h1
            exact h1
          case measure => have := HM.out; simp [intOf]; omega
        · obtain rfl : j = 16 := by omega
          have hfin : us (fT l k 16) 17 = us (fK l k) 17 := us_congr fun i hi => if_pos (by omega)
          rw [hfin] at hb1
          clear hfin
          have hld := load_a17 wr w.heap.size _ hb1
          have hst := storeCells_a17 wr w.heap.size _ (fK l k) (by rw [List.size_toArray, us_length]) hb1
          have hlen : (us (fK l k) 17).length = 17 := us_length _ _
          have hld2 := load_a17 _ w.heap.size _ (hb1.setRow (us (fK l k) 17).toArray)
          have hbel2 := below_setRow hbel (Nat.le_refl _) (us (fK l k) 17).toArray
          go_wp2_with ((with_reducible refine wpList_load_var w.heap.size _ ?hp hld ?hK); case hp => rfl)
          refine bodyPost_ret (v := .agg (us (fK l k) 17).toArray) ?_ rfl ⟨rfl, hbel2⟩
          rw [results_cell_one rfl]
          simp [asAddr, Result.andThen, hld2]
theorem u32_eq2 (a b : Nat) : ((a : Int) == (b : Int)) = decide (a = b) := by
  rw [Bool.eq_iff_iff, beq_iff_eq, decide_eq_true_iff]
  omega
set_option maxHeartbeats 2000000 in
theorem full_c (A : Option Addr) (n c : Nat) (l : List Int) (w : World) (h : IRow w A n .i64 l) (hr : RightL l) (hn : n ≤ 288) :
    Calls Tryd.prog 81 #[.slice A n c] w fun e w' => e = .returned (.bool (decide (kr l n = 32768))) ∧ Below w.heap.size w w' := by
  have hz1 := zero_a17
  have hk := fK_kr hr n (by have := h.len; omega)
  have HK := Lib.hid hk
  have HF := Lib.hid (firstCodes_c A n c l w h hr hn)
  clear hk hr
  go_enter Tryd.func81, Tryd.ntmps81
  go_wp2_with fail
  refine HF.out.mono ?_
  rintro e w1 ⟨rfl, hb1⟩
  have hs1 := store_new17 w1 (fK l n) w1.heap.size rfl
  have hl1 : (us (fK l n) 17).length = 17 := us_length _ _
  have hc := (Blk.new w1 107 (us (fK l n) 17).toArray).cell 16
  rw [List.getElem?_toArray, us_at _ (by omega), HK.out] at hc
  have hbel := hb1.alloc hb1.size (.cells (us (fK l n) 17).toArray 107)
  have hd : Hid ((((2 * kr l n : Nat) : Int) == 65536) = decide (kr l n = 32768)) := by
    unfold Hid
    rw [show (65536 : Int) = ((65536 : Nat) : Int) from rfl, u32_eq2]
    exact decide_eq_decide.2 (by omega)
  generalize 2 * kr l n = x at *
  clear HK HF h
  go_wp2
  go_ret
  exact ⟨ret_bool hd.out, hbel⟩
/-- the error of lengths -/
def errC (l : List Int) (n : Nat) : Nat :=
  if 288 < n ∨ RightB l n = false then 1 else if 32768 < kr l n then 30 else if kr l n < 32768 ∧ 2 ≤ totL l n then 31 else 0
set_option maxHeartbeats 2000000 in
theorem wrong_c (A : Option Addr) (n c : Nat) (l : List Int) (w : World) (h : IRow w A n .i64 l) :
    Calls Tryd.prog 77 #[.slice A n c] w fun e w' => e = .returned (.int .i64 (errC l n)) ∧ Below w.heap.size w w' := by
  have hm := h.max'
  by_cases h1 : (288 : Int) < (n : Int)
  · have he : errC l n = 1 := if_pos (.inl (by omega))
    rw [he]
    clear he
    go_enter Tryd.func77, Tryd.ntmps77
    go_wp2
    go_ret
    exact ⟨rfl, Below.refl _ _⟩
  · have hcon := Contains1_c A n c l w h
    cases hr : RightB l n with
    | false =>
      have he : errC l n = 1 := if_pos (.inr hr)
      rw [he]
      rw [hr] at hcon
      have HC := Lib.hid hcon
      clear hcon hr he
      go_enter Tryd.func77, Tryd.ntmps77
      go_wp2_with (go_at_call 78; refine HC.out.mono ?_; rintro e _ ⟨rfl, rfl⟩)
      go_ret
      exact ⟨rfl, Below.refl _ _⟩
    | true =>
      have hne : ¬ (288 < n ∨ RightB l n = false) := by rw [hr]; simp; omega
      have hri : RightL l := by have := RightB_all hr; unfold RightL; rw [h.len]; exact this
      have HRI := Lib.hid hri
      have hfit := Fit_c A n c l w h
      have hfb : fitB l n = decide (kr l n ≤ 32768) := by unfold fitB; rw [hr, decide_eq_true (by omega)]; rfl
      rw [hfb] at hfit
      have HE : Hid (errC l n = if 32768 < kr l n then 30 else if kr l n < 32768 ∧ 2 ≤ totL l n then 31 else 0) := if_neg hne
      rw [hr] at hcon
      have HC := Lib.hid hcon
      rw [HE.out]
      clear hcon hr hri hne hfb
      by_cases hk : 32768 < kr l n
      · rw [if_pos hk]
        rw [decide_eq_false (by omega)] at hfit
        have HFIT := Lib.hid hfit
        clear hfit hk
        go_enter Tryd.func77, Tryd.ntmps77
        go_wp2_with (first
          | (go_at_call 78; refine HC.out.mono ?_; rintro e _ ⟨rfl, rfl⟩)
          | (go_at_call 80; refine HFIT.out.mono ?_; rintro e _ ⟨rfl, q, rfl⟩))
        go_ret
        exact ⟨rfl, below_drewN (Below.refl _ _) q⟩
      · rw [if_neg hk]
        rw [decide_eq_true (by omega)] at hfit
        have HFIT := Lib.hid hfit
        have HFU := Lib.hid (fun q => full_c A n c l (w.drewN q) (h.drewN q) HRI.out (by omega))
        have hlen := h.len
        have HMB : Hid (∀ W, Below w.heap.size w W → Calls Tryd.prog 82 #[.slice A n c] W fun e w' => e = .returned (.bool (decide (totL l n < 2))) ∧ W = w') := fun W hb => mayBeOpen_c A n c l W (h.below hb) (by have := HRI.out; unfold RightL at this; rw [hlen] at this; exact this) (by omega)
        clear hfit hlen
        by_cases hk2 : kr l n = 32768
        · rw [if_neg (by omega)]
          rw [decide_eq_true hk2] at HFU
          clear hk2 hk
          go_enter Tryd.func77, Tryd.ntmps77
          go_wp2_with (first
            | (go_at_call 78; refine HC.out.mono ?_; rintro e _ ⟨rfl, rfl⟩)
            | (go_at_call 80; refine HFIT.out.mono ?_; rintro e _ ⟨rfl, q, rfl⟩)
            | (go_at_call 81; refine (HFU.out q).mono ?_; rintro e w2 ⟨rfl, hb2⟩))
          go_ret
          exact ⟨rfl, (below_drewN (Below.refl _ _) q).trans hb2⟩
        · rw [decide_eq_false hk2] at HFU
          by_cases ht : totL l n < 2
          · rw [if_neg (by omega)]
            rw [decide_eq_true ht] at HMB
            clear hk2 hk ht
            go_enter Tryd.func77, Tryd.ntmps77
            go_wp2_with (first
              | (go_at_call 78; refine HC.out.mono ?_; rintro e _ ⟨rfl, rfl⟩)
              | (go_at_call 80; refine HFIT.out.mono ?_; rintro e _ ⟨rfl, q, rfl⟩)
              | (go_at_call 81; refine (HFU.out q).mono ?_; rintro e w2 ⟨rfl, hb2⟩; have hb3 : Below w.heap.size w w2 := (below_drewN (Below.refl _ _) q).trans hb2)
              | (go_at_call 82; refine (HMB.out _ hb3).mono ?_; rintro e _ ⟨rfl, rfl⟩))
            go_ret
            exact ⟨rfl, hb3⟩
          · rw [if_pos (by omega)]
            rw [decide_eq_false ht] at HMB
            clear hk2 hk ht
            go_enter Tryd.func77, Tryd.ntmps77
            go_wp2_with (first
              | (go_at_call 78; refine HC.out.mono ?_; rintro e _ ⟨rfl, rfl⟩)
              | (go_at_call 80; refine HFIT.out.mono ?_; rintro e _ ⟨rfl, q, rfl⟩)
              | (go_at_call 81; refine (HFU.out q).mono ?_; rintro e w2 ⟨rfl, hb2⟩; have hb3 : Below w.heap.size w w2 := (below_drewN (Below.refl _ _) q).trans hb2)
              | (go_at_call 82; refine (HMB.out _ hb3).mono ?_; rintro e _ ⟨rfl, rfl⟩))
            go_ret
            exact ⟨rfl, hb3⟩
end Go.Proofs.YtbphbogolffanaaDoor
