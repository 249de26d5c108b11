/-
  THE CONTRACTS OF lengths.Fit, canon.wrong, canon.firstCodes, canon.Codes. No conditions.
-/
import Derived.Test.YtbphbogolffanaaDoorCan
import Derived.Test.YtbphbogolffanaaDoorBase
import Derived.Deep.WholeRow
import Derived.Laws.ResultCell
import Derived.Deep.RegionHeld3
import Derived.Laws.CopyOwn
namespace Go.Proofs.YtbphbogolffanaaDoor
open Go.RowKit
set_option maxRecDepth 100000
set_option linter.unusedVariables false

/-- lengths are from 0 to 15, so far -/
def RightB (l : List Int) : Nat → Bool
  | 0 => true
  | k + 1 => RightB l k && decide (0 ≤ gi l k ∧ gi l k ≤ 15)
theorem RightB_all {l : List Int} {k : Nat} (h : RightB l k = true) : ∀ i, i < k → 0 ≤ gi l i ∧ gi l i ≤ 15 := by
  induction k with
  | zero => intro i hi; omega
  | succ k ih =>
    unfold RightB at h
    rw [Bool.and_eq_true, decide_eq_true_iff] at h
    intro i hi
    by_cases e : i = k
    · subst e; exact h.2
    · exact ih h.1 i (by omega)
theorem RightB_not {l : List Int} {k j : Nat} (hj : j < k) (h : ¬ (0 ≤ gi l j ∧ gi l j ≤ 15)) : RightB l k = false := by
  cases hb : RightB l k with
  | false => rfl
  | true => exact absurd (RightB_all hb j hj) h
theorem RightB_mono {l : List Int} {k : Nat} (h : ∀ i, i < k → 0 ≤ gi l i ∧ gi l i ≤ 15) : RightB l k = true := by
  induction k with
  | zero => rfl
  | succ k ih =>
    unfold RightB
    rw [Bool.and_eq_true, decide_eq_true_iff]
    exact ⟨ih fun i hi => h i (by omega), h k (by omega)⟩
/-- where the first that isn't right stands -/
def IdxRes (l : List Int) (n : Nat) (x : Int) : Prop := (RightB l n = true ∧ x = -1) ∨ (RightB l n = false ∧ 0 ≤ x)
theorem bad1_c (a : Int) (w : World) : Calls Tryd.prog 79 #[.int .i64 a] w fun e w' => e = .returned (.bool (!decide (0 ≤ a ∧ a ≤ 15))) ∧ w = w' := by
  by_cases h1 : a < 0
  · have hd : decide (0 ≤ a ∧ a ≤ 15) = false := decide_eq_false (by omega)
    rw [hd]
    clear hd
    go_enter Tryd.func79, Tryd.ntmps79
    go_wp2
    go_ret
    exact ⟨rfl, rfl⟩
  · by_cases h2 : 15 < a
    · have hd : decide (0 ≤ a ∧ a ≤ 15) = false := decide_eq_false (by omega)
      rw [hd]
      clear hd
      go_enter Tryd.func79, Tryd.ntmps79
      go_wp2
      go_ret
      exact ⟨rfl, rfl⟩
    · have hd : decide (0 ≤ a ∧ a ≤ 15) = true := decide_eq_true (by omega)
      rw [hd]
      clear hd
      go_enter Tryd.func79, Tryd.ntmps79
      go_wp2
      go_ret
      exact ⟨rfl, rfl⟩
theorem bad2_c (a : Int) (w : World) : Calls Tryd.prog 84 #[.int .i64 a] w fun e w' => e = .returned (.bool (!decide (0 ≤ a ∧ a ≤ 15))) ∧ w = w' := by
  by_cases h1 : a < 0
  · have hd : decide (0 ≤ a ∧ a ≤ 15) = false := decide_eq_false (by omega)
    rw [hd]
    clear hd
    go_enter Tryd.func84, Tryd.ntmps84
    go_wp2
    go_ret
    exact ⟨rfl, rfl⟩
  · by_cases h2 : 15 < a
    · have hd : decide (0 ≤ a ∧ a ≤ 15) = false := decide_eq_false (by omega)
      rw [hd]
      clear hd
      go_enter Tryd.func84, Tryd.ntmps84
      go_wp2
      go_ret
      exact ⟨rfl, rfl⟩
    · have hd : decide (0 ≤ a ∧ a ≤ 15) = true := decide_eq_true (by omega)
      rw [hd]
      clear hd
      go_enter Tryd.func84, Tryd.ntmps84
      go_wp2
      go_ret
      exact ⟨rfl, rfl⟩
set_option maxHeartbeats 1000000 in
theorem Index1_c (A : Option Addr) (n c : Nat) (l : List Int) (w : World) (h : IRow w A n .i64 l) :
    Calls Tryd.prog 83 #[.slice A n c, .func (.func 79) #[] #[]] w fun e w' => ∃ x, e = .returned (.int .i64 x) ∧ IdxRes l n x ∧ w = w' := by
  have hm := h.max'
  go_enter Tryd.func83, Tryd.ntmps83
  go_wp2
  go_loop [8] (fun i => ∃ k : Nat, k ≤ n ∧ i = .int .i64 k ∧ Hid (RightB l k = true)) (fun i => n - (intOf i).toNat)
  case atStart => exact ⟨0, by omega, rfl, rfl⟩
  case round =>
    obtain ⟨k, hk, rfl, hs⟩ := hrel
    by_cases hlt : k < n
    · have hkn : (k : Int) < n := by omega
      obtain ⟨b1, o1, rfl, _, q1⟩ := h.at_ hlt
      have hb := bad1_c (gi l k)
      by_cases hz : 0 ≤ gi l k ∧ gi l k ≤ 15
      · have hs2 : Hid (RightB l (k + 1) = true) := by unfold Hid RightB; rw [hs.out, decide_eq_true hz]; rfl
        rw [decide_eq_true hz] at hb
        generalize gi l k = a at *
        have HB := Lib.hid hb
        clear hb hz
        go_wp2_with (go_at_call 79; refine (HB.out _).mono ?_; rintro e w' ⟨rfl, rfl⟩)
        go_round
        case rel => exact ⟨k + 1, by omega, by go_num, hs2⟩
        case measure => simp [intOf]; omega
      · have hr : Hid (IdxRes l n k) := .inr ⟨RightB_not hlt hz, by omega⟩
        rw [decide_eq_false hz] at hb
        generalize gi l k = a at *
        have HB := Lib.hid hb
        clear hb hz
        go_wp2_with (go_at_call 79; refine (HB.out _).mono ?_; rintro e w' ⟨rfl, rfl⟩)
        go_ret
        exact ⟨_, rfl, hr.out, rfl⟩
    · obtain rfl : k = n := by omega
      go_wp2
      go_ret
      exact ⟨_, rfl, .inl ⟨hs.out, rfl⟩, rfl⟩
set_option maxHeartbeats 1000000 in
theorem Index2_c (A : Option Addr) (n c : Nat) (l : List Int) (w : World) (h : IRow w A n .i64 l) :
    Calls Tryd.prog 83 #[.slice A n c, .func (.func 84) #[] #[]] w fun e w' => ∃ x, e = .returned (.int .i64 x) ∧ IdxRes l n x ∧ w = w' := by
  have hm := h.max'
  go_enter Tryd.func83, Tryd.ntmps83
  go_wp2
  go_loop [8] (fun i => ∃ k : Nat, k ≤ n ∧ i = .int .i64 k ∧ Hid (RightB l k = true)) (fun i => n - (intOf i).toNat)
  case atStart => exact ⟨0, by omega, rfl, rfl⟩
  case round =>
    obtain ⟨k, hk, rfl, hs⟩ := hrel
    by_cases hlt : k < n
    · have hkn : (k : Int) < n := by omega
      obtain ⟨b1, o1, rfl, _, q1⟩ := h.at_ hlt
      have hb := bad2_c (gi l k)
      by_cases hz : 0 ≤ gi l k ∧ gi l k ≤ 15
      · have hs2 : Hid (RightB l (k + 1) = true) := by unfold Hid RightB; rw [hs.out, decide_eq_true hz]; rfl
        rw [decide_eq_true hz] at hb
        generalize gi l k = a at *
        have HB := Lib.hid hb
        clear hb hz
        go_wp2_with (go_at_call 84; refine (HB.out _).mono ?_; rintro e w' ⟨rfl, rfl⟩)
        go_round
        case rel => exact ⟨k + 1, by omega, by go_num, hs2⟩
        case measure => simp [intOf]; omega
      · have hr : Hid (IdxRes l n k) := .inr ⟨RightB_not hlt hz, by omega⟩
        rw [decide_eq_false hz] at hb
        generalize gi l k = a at *
        have HB := Lib.hid hb
        clear hb hz
        go_wp2_with (go_at_call 84; refine (HB.out _).mono ?_; rintro e w' ⟨rfl, rfl⟩)
        go_ret
        exact ⟨_, rfl, hr.out, rfl⟩
    · obtain rfl : k = n := by omega
      go_wp2
      go_ret
      exact ⟨_, rfl, .inl ⟨hs.out, rfl⟩, rfl⟩
theorem IdxRes.geq {l : List Int} {n : Nat} {x : Int} (h : IdxRes l n x) : decide (0 ≤ x) = !RightB l n := by
  rcases h with ⟨h1, rfl⟩ | ⟨h1, h2⟩
  · rw [h1]; rfl
  · rw [h1, decide_eq_true h2]; rfl
set_option maxHeartbeats 1000000 in
theorem Contains1_c (A : Option Addr) (n c : Nat) (l : List Int) (w : World) (h : IRow w A n .i64 l) :
    Calls Tryd.prog 78 #[.slice A n c, .func (.func 79) #[] #[]] w fun e w' => e = .returned (.bool (!RightB l n)) ∧ w = w' := by
  go_enter Tryd.func78, Tryd.ntmps78
  go_wp2_with (go_at_call 83; refine (Index1_c A n c l _ h).mono ?_; rintro e w' ⟨x, rfl, hx, rfl⟩; have HX := Lib.hid hx.geq; clear hx)
  go_ret
  exact ⟨ret_bool HX.out, rfl⟩
set_option maxHeartbeats 1000000 in
theorem Contains2_c (A : Option Addr) (n c : Nat) (l : List Int) (w : World) (h : IRow w A n .i64 l) :
    Calls Tryd.prog 78 #[.slice A n c, .func (.func 84) #[] #[]] w fun e w' => e = .returned (.bool (!RightB l n)) ∧ w = w' := by
  go_enter Tryd.func78, Tryd.ntmps78
  go_wp2_with (go_at_call 83; refine (Index2_c A n c l _ h).mono ?_; rintro e w' ⟨x, rfl, hx, rfl⟩; have HX := Lib.hid hx.geq; clear hx)
  go_ret
  exact ⟨ret_bool HX.out, rfl⟩
/-- lengths are right, and fit -/
def fitB (l : List Int) (n : Nat) : Bool := decide (n ≤ 288) && RightB l n && decide (kr l n ≤ 32768)
theorem kr_bound (l : List Int) {n : Nat} (h : ∀ i, i < n → 0 ≤ gi l i ∧ gi l i ≤ 15) : ∀ k, k ≤ n → kr l k ≤ 16384 * k := by
  intro k
  induction k with
  | zero => intro _; exact Nat.le_refl _
  | succ k ih =>
    intro hk
    have h1 := ih (by omega)
    have h3 := h k (by omega)
    unfold kr
    by_cases h2 : 0 < gi l k
    · rw [if_pos h2]
      have h3 : 1 ≤ lnN l k := by unfold lnN; omega
      have h4 : 2 ^ (15 - lnN l k) ≤ 2 ^ 14 := Nat.pow_le_pow_right (by decide) (by omega)
      omega
    · rw [if_neg h2]
      omega
theorem pow15 (m : Nat) (h : m ≤ 15) : 2 ^ (15 - m) ≤ 32768 := Nat.pow_le_pow_right (by decide) (by omega : 15 - m ≤ 15)
theorem sum_step (s a pw : Nat) (hs : s ≤ 9223372036854700000) (hp : pw ≤ 32768) (h : pw = 2 ^ (15 - a)) : wrap64 ((s : Int) + wrap64 (2 ^ (15 - a))) = ((s + pw : Nat) : Int) := by
  have e : ((2 : Int) ^ (15 - a)) = (pw : Int) := by rw [h]; simp
  rw [e, IntWalk.wrap64_in (pw : Int) (by omega), IntWalk.wrap64_in _ (by omega)]
  omega
set_option maxHeartbeats 1000000 in
theorem Fit_c (A : Option Addr) (n c : Nat) (l : List Int) (w : World) (h : IRow w A n .i64 l) :
    Calls Tryd.prog 80 #[.slice A n c] w fun e w' => e = .returned (.bool (fitB l n)) ∧ ∃ q, w' = w.drewN q := by
  have hm := h.max'
  by_cases h1 : (288 : Int) < (n : Int)
  · have hf : Hid (fitB l n = false) := by unfold Hid fitB; rw [decide_eq_false (by omega)]; rfl
    go_enter Tryd.func80, Tryd.ntmps80
    go_wp2
    go_ret
    exact ⟨ret_bool hf.out.symm, 0, rfl⟩
  · have hcon := Contains2_c A n c l w h
    cases hr : RightB l n with
    | false =>
      have hf : Hid (fitB l n = false) := by unfold Hid fitB; rw [hr, Bool.and_false]; rfl
      rw [hr] at hcon
      have HC := Lib.hid hcon
      clear hcon hr
      go_enter Tryd.func80, Tryd.ntmps80
      go_wp2_with (go_at_call 78; refine HC.out.mono ?_; rintro e _ ⟨rfl, rfl⟩)
      go_ret
      exact ⟨ret_bool hf.out.symm, 0, rfl⟩
    | true =>
      have hf : Hid (fitB l n = decide (kr l n ≤ 32768)) := by unfold Hid fitB; rw [hr, decide_eq_true (by omega)]; rfl
      have hri := RightB_all hr
      have HRI := Lib.hid hri
      have hkb := kr_bound l hri
      have HKB := Lib.hid hkb
      rw [hr] at hcon
      have HC := Lib.hid hcon
      clear hcon hr hri hkb
      go_enter Tryd.func80, Tryd.ntmps80
      go_wp2_with (go_at_call 78; refine HC.out.mono ?_; rintro e _ ⟨rfl, rfl⟩)
      go_loopw [3, 15] (fun s i wr => ∃ k q : Nat, k ≤ n ∧ i = .int .i64 k ∧ s = .int .i64 (kr l k) ∧ Hid (wr = w.drewN q)) (fun _ i _ => n - (intOf i).toNat)
      case atStart => exact ⟨0, 0, by omega, rfl, rfl, rfl⟩
      case round =>
        obtain ⟨k, q, hk, rfl, rfl, hw⟩ := hrel
        by_cases hlt : k < n
        · have hkn : (k : Int) < n := by omega
          have h1 := h.drewN q
          rw [← hw.out] at h1
          obtain ⟨b1, o1, rfl, _, q1⟩ := h1.at_ hlt
          have hg := HRI.out k hlt
          obtain ⟨a, ha⟩ : ∃ a : Nat, gi l k = a := ⟨(gi l k).toNat, by omega⟩
          have hkr := HKB.out k (by omega)
          rw [ha] at q1
          by_cases ha0 : 0 < a
          · have ha15 : a ≤ 15 := by omega
            have hai : (0 : Int) < (a : Int) := by omega
            have hs : Hid (kr l (k + 1) = kr l k + 2 ^ (15 - a)) := by
              unfold Hid
              rw [kr, if_pos (by omega), show lnN l k = a by unfold lnN; omega]
            have hp := pow15 a ha15
            obtain ⟨pw, hpw⟩ : ∃ pw, pw = 2 ^ (15 - a) := ⟨_, rfl⟩
            rw [← hpw] at hp hs
            have hpe := Lib.hid hpw
            clear hpw
            go_wp2
            go_roundw
            case rel =>
              refine ⟨k + 1, q, by omega, by go_num, ?_, hw⟩
              rw [hs.out, sum_step (kr l k) a pw (by omega) hp hpe.out]
            case measure => simp [intOf]; omega
          · obtain rfl : a = 0 := by omega
            have hs : Hid (kr l (k + 1) = kr l k) := by
              unfold Hid
              rw [kr, if_neg (by omega)]; rfl
            go_wp2
            go_roundw
            case rel => exact ⟨k + 1, q, by omega, by go_num, by rw [hs.out], hw⟩
            case measure => simp [intOf]; omega
        · obtain rfl : k = n := by omega
          go_wp2
          go_ret
          refine ⟨ret_bool ?_, q, hw.out⟩
          rw [hf.out]
          exact decide_eq_decide.2 (by omega)
/-- the sum of the first lengths -/
def totL (l : List Int) : Nat → Nat
  | 0 => 0
  | k + 1 => totL l k + lnN l k
set_option maxHeartbeats 1000000 in
theorem mayBeOpen_c (A : Option Addr) (n c : Nat) (l : List Int) (w : World) (h : IRow w A n .i64 l) (hr : ∀ i, i < n → 0 ≤ gi l i ∧ gi l i ≤ 15) (hn : n ≤ 288) :
    Calls Tryd.prog 82 #[.slice A n c] w fun e w' => e = .returned (.bool (decide (totL l n < 2))) ∧ w = w' := by
  have HRI := Lib.hid hr
  clear hr
  go_enter Tryd.func82, Tryd.ntmps82
  go_wp2
  go_loop [3, 8] (fun s i => ∃ k : Nat, k ≤ n ∧ i = .int .i64 k ∧ s = .int .i64 (totL l k) ∧ totL l k ≤ 15 * k) (fun _ i => n - (intOf i).toNat)
  case atStart => exact ⟨0, by omega, rfl, rfl, Nat.le_refl _⟩
  case round =>
    obtain ⟨k, hk, rfl, rfl, hb⟩ := hrel
    by_cases hlt : k < n
    · have hkn : (k : Int) < n := by omega
      obtain ⟨b1, o1, rfl, _, q1⟩ := h.at_ hlt
      have hg := HRI.out k hlt
      obtain ⟨a, ha⟩ : ∃ a : Nat, gi l k = a := ⟨(gi l k).toNat, by omega⟩
      rw [ha] at q1
      have ha15 : a ≤ 15 := by omega
      have hs : Hid (totL l (k + 1) = totL l k + a) := by
        unfold Hid
        rw [totL, show lnN l k = a by unfold lnN; omega]
      obtain ⟨s, hse⟩ : ∃ s, s = totL l k := ⟨_, rfl⟩
      rw [← hse] at hb hs ⊢
      clear hse
      go_wp2
      go_round
      case rel => exact ⟨k + 1, by omega, by go_num, by rw [hs.out]; go_num, by rw [hs.out]; omega⟩
      case measure => simp [intOf]; omega
    · obtain rfl : k = n := by omega
      go_wp2
      go_ret
      exact ⟨ret_bool (decide_eq_decide.2 (by omega)), rfl⟩
/-- a row of words of 32 bits, by their places -/
def us (f : Nat → Nat) (n : Nat) : List Value := (List.range n).map fun i => .int .u32 ((f i : Nat) : Int)
theorem us_length (f : Nat → Nat) (n : Nat) : (us f n).length = n := by simp [us]
theorem us_at (f : Nat → Nat) {n i : Nat} (h : i < n) : (us f n)[i]? = some (.int .u32 ((f i : Nat) : Int)) := by simp [us, h]
theorem us_congr {f g : Nat → Nat} {n : Nat} (h : ∀ i, i < n → f i = g i) : us f n = us g n := by
  unfold us
  exact List.map_congr_left fun i hi => by rw [h i (List.mem_range.1 hi)]
theorem us_set {f g : Nat → Nat} {n i v : Nat} (h : ∀ j, j < n → g j = if j = i then v else f j) : (us f n).set i (.int .u32 ((v : Nat) : Int)) = us g n := by
  refine List.ext_getElem? fun j => ?_
  rw [List.getElem?_set]
  by_cases hj : j < n
  · rw [us_at g hj, h j hj, us_length]
    by_cases e : i = j
    · subst e; rw [if_pos rfl, if_pos hj, if_pos rfl]
    · rw [if_neg e, us_at f hj, if_neg (Ne.symm e)]
  · rw [List.getElem?_eq_none (l := us g n) (by rw [us_length]; omega)]
    split
    · rw [if_neg (by rw [us_length]; omega)]
    · rw [List.getElem?_eq_none (by rw [us_length]; omega)]
theorem us_one (f : Nat → Nat) (n : Nat) : ∀ u ∈ us f n, u.oneCell' = true := by
  intro u hu
  obtain ⟨b, _, rfl⟩ := List.mem_map.1 hu
  rfl
theorem info_a17 : (Tryd.prog.info? 107).map (fun i => (i.zero, i.size)) = some (some (.agg (us (fun _ => 0) 17).toArray), 17) := by kernel_rfl
theorem info_a16 : (Tryd.prog.info? 124).map (fun i => (i.zero, i.size)) = some (some (.agg (us (fun _ => 0) 16).toArray), 16) := by kernel_rfl
theorem zero_a17 (w : World) : Sem.run Tryd.prog (zeroValue 107) w = .ok (.agg (us (fun _ => 0) 17).toArray) w := (zero_of_info info_a17).1 w
theorem size_a17 : (Tryd.prog.info? 107).map (·.size) = some 17 := (zero_of_info info_a17).2
theorem zero_a16 (w : World) : Sem.run Tryd.prog (zeroValue 124) w = .ok (.agg (us (fun _ => 0) 16).toArray) w := (zero_of_info info_a16).1 w
theorem size_a16 : (Tryd.prog.info? 124).map (·.size) = some 16 := (zero_of_info info_a16).2
theorem load_a17 (w : World) (g : Nat) (f : Nat → Nat) (h : Blk w g 107 (us f 17).toArray) : Sem.run Tryd.prog (loadVar 107 ⟨g, 0, none⟩) w = .ok (.agg (us f 17).toArray) w :=
  run_loadVar_row w g _ _ _ (0, 0) _ h Tryd.underlying107 rfl (by rw [size_a17, List.size_toArray, us_length])
theorem load_a16 (w : World) (g : Nat) (f : Nat → Nat) (h : Blk w g 124 (us f 16).toArray) : Sem.run Tryd.prog (loadVar 124 ⟨g, 0, none⟩) w = .ok (.agg (us f 16).toArray) w :=
  run_loadVar_row w g _ _ _ (0, 0) _ h Tryd.underlying124 rfl (by rw [size_a16, List.size_toArray, us_length])
theorem store_a17 (w : World) (g : Nat) (C : Array Value) (f : Nat → Nat) (hC : C.size = 17) (h : Blk w g 107 C) : Sem.run Tryd.prog (storeVar 107 ⟨g, 0, none⟩ (.agg (us f 17).toArray)) w = .ok () (w.setRow g (us f 17).toArray) :=
  run_storeVar_row w g _ _ _ _ h (by rw [size_a17, List.size_toArray, us_length]) (by rw [hC, List.size_toArray, us_length]) (by
    rw [Array.all_eq_true_iff_forall_mem]
    intro u hu
    exact us_one f 17 u (by simpa using hu))
theorem storeCells_a17 (w : World) (g : Nat) (C : Array Value) (f : Nat → Nat) (hC : C.size = 17) (h : Blk w g 107 C) : Sem.run Tryd.prog (storeCells ⟨g, 0, none⟩ (us f 17) 0) w = .ok () (w.setRow g (us f 17).toArray) := by
  have h1 := store_a17 w g C f hC h
  have h2 := size_a17
  cases hq : Tryd.prog.info? 107 with
  | none => simp [hq] at h2
  | some i =>
    have hs : i.size = 17 := by simpa [hq] using h2
    simpa [storeVar, sizeOf, typeInfo, hq, Value.cells, hs, us_length] using h1
theorem store_new17 (w : World) (f : Nat → Nat) (g : Nat) (hg : g = w.heap.size) : Sem.run Tryd.prog (storeCells ⟨g, 0, none⟩ (us f 17) 0) (w.alloc (.cells (us (fun _ => 0) 17).toArray 107)) = .ok () (w.alloc (.cells (us f 17).toArray 107)) := by
  subst hg
  have h := storeCells_a17 (w.alloc (.cells (us (fun _ => 0) 17).toArray 107)) w.heap.size _ f (by rw [List.size_toArray, us_length]) (Blk.new _ _ _)
  rw [World.setRow_alloc_new] at h
  exact h
end Go.Proofs.YtbphbogolffanaaDoor
