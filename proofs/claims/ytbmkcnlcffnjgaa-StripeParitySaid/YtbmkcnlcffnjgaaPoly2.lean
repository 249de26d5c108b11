/-
  THE CONTRACTS OF PACKAGE poly: Trim, Add, Eval. Rows are as great as memory lets them be.
-/
import Derived.Test.YtbmkcnlcffnjgaaPoly
namespace Go.Proofs.Ytbmkcnlcffnjgaa
open Go.RowKit
set_option linter.unusedVariables false

theorem Degree_at (A : Option Addr) (n c t : Nat) (l : List F) (w : World) (h : Row w A n l) (ht : tl l n = t) :
    Calls Try.prog 66 #[.slice A n c] w fun e w' => e = .returned (.int .i64 ((t : Int) - 1)) ∧ w = w' := by
  subst ht
  exact Degree_c A n c l w h
/-- a cut of what is owned is owned -/
theorem own_take {w : World} {base n k c : Nat} {e : TypeId} {A : Option Addr} {l : List F} (h : w.ownsRow base e 1 (.slice A n c) n (cs l)) (hk : k ≤ n) : w.ownsRow base e 1 (.slice A k c) k (cs (l.take k)) := by
  have hl : l.length = n := by have := h.1; rw [cs_length] at this; omega
  refine ⟨by rw [cs_length]; simp; omega, ?_⟩
  rcases h.2 with ⟨hv, h0⟩ | ⟨g, cap, cur, hv, hb, hg, hnc, hcm, hsz, ht⟩
  · injection hv with hA hn hc
    subst hA hc
    exact .inl ⟨by rw [show k = 0 by omega], by omega⟩
  · injection hv with hA hn hc
    subst hA hc
    refine .inr ⟨g, c, cur, rfl, hb, hg, by omega, hcm, hsz, ?_⟩
    rw [Nat.mul_one] at ht ⊢
    unfold cs at ht ⊢
    rw [List.map_take, ← ht, List.take_take, Nat.min_eq_left hk]
/-- what is owned: at which block, if there is a byte -/
theorem own_at {w : World} {base n c : Nat} {e : TypeId} {A : Option Addr} {l : List F} (h : w.ownsRow base e 1 (.slice A n c) n (cs l)) (hn : 0 < n) : ∃ g, A = some ⟨g, 0, none⟩ ∧ base ≤ g ∧ g < w.heap.size := by
  rcases h.2 with ⟨hv, h0⟩ | ⟨g, cap, cur, hv, hb, hg, hnc, hcm, hsz, ht⟩
  · omega
  · injection hv with hA
    subst hA
    exact ⟨g, rfl, h.lt g rfl⟩
set_option maxHeartbeats 1000000 in
/-- the greater one ahead, or behind -/
theorem Add_ord (A B : Option Addr) (n m ca cb : Nat) (p q : List F) (w : World) (hp : Row w A n p) (hq : Row w B m q) (hn : n ≤ 140737488355328) (hm : m ≤ n) (swap : Bool) (hs : swap = true → m < n) :
    Calls Try.prog 57 (if swap then #[.slice B m cb, .slice A n ca] else #[.slice A n ca, .slice B m cb]) w fun e w' => ∃ A' t c', e = .returned (.slice A' t c') ∧ w'.ownsRow w.heap.size 5 1 (.slice A' t c') t (cs (tr (padd p q))) ∧ Below w.heap.size w w' := by
  cases swap
  · simp only [Bool.false_eq_true, if_false]
    clear hs
    go_enter Try.func57, Try.ntmps57
    go_wp2_with (go_at_call 29; refine (Clone_c A n ca p _ hp hn).mono ?_; rintro e w1 ⟨A', c', rfl, hown, hbel⟩)
    go_loopw [19] (fun i wr => ∃ (k : Nat) (s : List F), k ≤ m ∧ i = .int .i64 k ∧ wr.ownsRow w.heap.size 5 1 (.slice A' n c') n (cs s) ∧ Below w.heap.size w wr ∧ Hid (∀ i, gt s i = gt p i + if i < k then gt q i else 0)) (fun i _ => m - (intOf i).toNat)
    case atStart => exact ⟨0, p, by omega, rfl, hown, hbel, fun i => by rw [if_neg (by omega), add_zero]⟩
    case round =>
      clear hown hbel
      obtain ⟨k, s, hk, rfl, hown, hbel, hg⟩ := hrel
      have hl := own_len hown
      by_cases hlt : k < m
      · obtain ⟨g, rfl, hg1, hg2⟩ := own_at hown (by omega)
        obtain ⟨b, o, rfl, hb, hc⟩ := hq.at_ hlt
        replace hc := (hbel.cell (p := ⟨b, o + k, none⟩) hb).trans hc
        have hf := hown.frozenAt k
        have hc2 := hown.cellAt k (by omega)
        rw [cs_at (by omega)] at hc2
        have hst := (hown.stored k (.int .u8 (gt s k + gt q k).n)).1
        rw [cs_set] at hst
        have HST := Lib.hid hst
        have HL := Lib.hid hl
        clear hst hl
        have hkn : (k : Int) < n := by omega
        go_wp2_with (go_at_call 53; refine (Add_c _ _ _).mono ?_; rintro e w' ⟨rfl, rfl⟩)
        go_roundw
        case rel =>
          refine ⟨k + 1, s.set k (gt s k + gt q k), by omega, by go_num, HST.out, hbel.setCell hg1 _, fun i => ?_⟩
          rw [gt_set _ _ _ _ (by rw [HL.out]; omega), hg.out, hg.out]
          by_cases hi : i = k
          · subst hi; rw [if_pos rfl, if_neg (by omega), add_zero, if_pos (by omega)]
          · rw [if_neg hi]
            by_cases h2 : i < k
            · rw [if_pos h2, if_pos (by omega)]
            · rw [if_neg h2, if_neg (by omega)]
        case measure => simp [intOf]; omega
      · have hle := tl_le s n
        have hcap := own_cap hown
        have hr := Row.of_own hown
        have htr : Hid (tr (padd p q) = s.take (tl s n)) := by
          unfold Hid
          rw [← tl_take s n hl]
          refine tr_ext fun i => ?_
          rw [gt_padd, hg.out]
          by_cases hi : i < k
          · rw [if_pos hi]
          · rw [if_neg hi, gt_ge (l := q) (by have := hq.len; omega)]
        have hfin := own_take hown hle
        clear hl
        generalize ht : tl s n = t at *
        have HT := Lib.hid ht
        clear ht
        go_wp2_with (go_at_call 66; refine (Degree_at A' n c' t s _ hr HT.out).mono ?_; rintro e w' ⟨rfl, rfl⟩)
        go_ret
        rw [htr.out]
        exact ⟨A', t, c', rfl, hfin, hbel⟩
  · simp only [if_true]
    have hs2 := hs rfl
    clear hs
    go_enter Try.func57, Try.ntmps57
    go_wp2_with (go_at_call 29; refine (Clone_c A n ca p _ hp hn).mono ?_; rintro e w1 ⟨A', c', rfl, hown, hbel⟩)
    go_loopw [19] (fun i wr => ∃ (k : Nat) (s : List F), k ≤ m ∧ i = .int .i64 k ∧ wr.ownsRow w.heap.size 5 1 (.slice A' n c') n (cs s) ∧ Below w.heap.size w wr ∧ Hid (∀ i, gt s i = gt p i + if i < k then gt q i else 0)) (fun i _ => m - (intOf i).toNat)
    case atStart => exact ⟨0, p, by omega, rfl, hown, hbel, fun i => by rw [if_neg (by omega), add_zero]⟩
    case round =>
      clear hown hbel
      obtain ⟨k, s, hk, rfl, hown, hbel, hg⟩ := hrel
      have hl := own_len hown
      by_cases hlt : k < m
      · obtain ⟨g, rfl, hg1, hg2⟩ := own_at hown (by omega)
        obtain ⟨b, o, rfl, hb, hc⟩ := hq.at_ hlt
        replace hc := (hbel.cell (p := ⟨b, o + k, none⟩) hb).trans hc
        have hf := hown.frozenAt k
        have hc2 := hown.cellAt k (by omega)
        rw [cs_at (by omega)] at hc2
        have hst := (hown.stored k (.int .u8 (gt s k + gt q k).n)).1
        rw [cs_set] at hst
        have HST := Lib.hid hst
        have HL := Lib.hid hl
        clear hst hl
        have hkn : (k : Int) < n := by omega
        go_wp2_with (go_at_call 53; refine (Add_c _ _ _).mono ?_; rintro e w' ⟨rfl, rfl⟩)
        go_roundw
        case rel =>
          refine ⟨k + 1, s.set k (gt s k + gt q k), by omega, by go_num, HST.out, hbel.setCell hg1 _, fun i => ?_⟩
          rw [gt_set _ _ _ _ (by rw [HL.out]; omega), hg.out, hg.out]
          by_cases hi : i = k
          · subst hi; rw [if_pos rfl, if_neg (by omega), add_zero, if_pos (by omega)]
          · rw [if_neg hi]
            by_cases h2 : i < k
            · rw [if_pos h2, if_pos (by omega)]
            · rw [if_neg h2, if_neg (by omega)]
        case measure => simp [intOf]; omega
      · have hle := tl_le s n
        have hcap := own_cap hown
        have hr := Row.of_own hown
        have htr : Hid (tr (padd p q) = s.take (tl s n)) := by
          unfold Hid
          rw [← tl_take s n hl]
          refine tr_ext fun i => ?_
          rw [gt_padd, hg.out]
          by_cases hi : i < k
          · rw [if_pos hi]
          · rw [if_neg hi, gt_ge (l := q) (by have := hq.len; omega)]
        have hfin := own_take hown hle
        clear hl
        generalize ht : tl s n = t at *
        have HT := Lib.hid ht
        clear ht
        go_wp2_with (go_at_call 66; refine (Degree_at A' n c' t s _ hr HT.out).mono ?_; rintro e w' ⟨rfl, rfl⟩)
        go_ret
        rw [htr.out]
        exact ⟨A', t, c', rfl, hfin, hbel⟩
theorem Add_poly (A B : Option Addr) (n m ca cb : Nat) (p q : List F) (w : World) (hp : Row w A n p) (hq : Row w B m q) (hn : n ≤ 140737488355328) (hm : m ≤ 140737488355328) :
    Calls Try.prog 57 #[.slice A n ca, .slice B m cb] w fun e w' => ∃ A' t c', e = .returned (.slice A' t c') ∧ w'.ownsRow w.heap.size 5 1 (.slice A' t c') t (cs (tr (padd p q))) ∧ Below w.heap.size w w' := by
  by_cases h : m ≤ n
  · exact Add_ord A B n m ca cb p q w hp hq hn h false (fun h => by cases h)
  · have e : tr (padd p q) = tr (padd q p) := tr_ext fun i => by rw [gt_padd, gt_padd, add_comm]
    rw [e]
    exact Add_ord B A m n cb ca q p w hq hp hm (by omega) true (fun _ => by omega)
end Go.Proofs.Ytbmkcnlcffnjgaa
