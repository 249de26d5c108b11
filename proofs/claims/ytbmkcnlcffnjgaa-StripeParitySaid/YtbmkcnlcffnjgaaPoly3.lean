/-
  THE CONTRACTS OF PACKAGE poly: Eval, addTimes, Mul. Rows are as great as memory lets them be.
-/
import Derived.Test.YtbmkcnlcffnjgaaPoly2
import Derived.Test.YtbmkcnlcffnjgaaPl2
import Derived.Deep.RegionWith
namespace Go.Proofs.Ytbmkcnlcffnjgaa
open Go.RowKit
set_option linter.unusedVariables false

set_option maxHeartbeats 400000 in
theorem Eval_c (A : Option Addr) (n c : Nat) (l : List F) (x : F) (w : World) (h : Row w A n l) :
    Calls Try.prog 48 #[.slice A n c, .int .u8 x.n] w fun e w' => e = .returned (.int .u8 (ev l x).n) ∧ ∃ q, w' = w.drewN q := by
  have hm := h.max
  go_enter Try.func48, Try.ntmps48
  go_wp2
  go_loopw [5, 6] (fun v i wr => ∃ k q : Nat, k ≤ n ∧ v = .int .u8 (ev (l.drop k) x).n ∧ i = .int .i64 ((k : Int) - 1) ∧ wr = w.drewN q) (fun _ i _ => (intOf i + 1).toNat)
  case atStart => exact ⟨n, 0, Nat.le_refl _, by rw [List.drop_eq_nil_of_le (by rw [h.len]; exact Nat.le_refl _)]; rfl, rfl, rfl⟩
  case round =>
    obtain ⟨k, q, hk, rfl, rfl, rfl⟩ := hrel
    by_cases hk0 : 1 ≤ k
    · obtain ⟨j, rfl⟩ : ∃ j, k = j + 1 := ⟨k - 1, by omega⟩
      obtain ⟨b, o, rfl, _, hc⟩ := h.at_ (k := j) (by omega)
      have e : ((j + 1 : Nat) : Int) - 1 = (j : Int) := by omega
      rw [e]
      clear e
      have hjn : (j : Int) < n := by omega
      have hev : Hid (ev (l.drop (j + 1)) x * x + gt l j = ev (l.drop j) x) := by
        unfold Hid
        rw [ev_drop l j x, add_comm, mul_comm]
      go_wp2
      go_quiet ((first | (go_at_call 54; exact quiet_add_left (Mul_c _ _ _)) | (go_at_call 53; exact quiet_add_left (Add_c _ _ _))))
      rw [hev.out]
      go_wp2
      go_roundw
      case rel => exact ⟨j, _, by omega, rfl, rfl, rfl⟩
      case measure => simp [intOf] <;> omega
    · obtain rfl : k = 0 := by omega
      go_wp2
      go_ret
      exact ⟨ret_u8 (by rw [List.drop_zero]), q, rfl⟩

set_option maxHeartbeats 1000000 in
theorem addTimes_c (base g off tn tc N C : Nat) (B : Option Addr) (m cb : Nat) (s q : List F) (x : F) (w : World) (hown : w.ownsRow base 5 1 (.slice (some ⟨g, 0, none⟩) N C) N (cs s)) (hq : Row w B m q)
    (hB : ∀ b, B = some b → b.block ≠ g) (h1 : m ≤ tn) (h2 : off + tn ≤ N) (hN : N ≤ 9223372036854775807) :
    Calls Try.prog 68 #[.slice (some ⟨g, off, none⟩) tn tc, .slice B m cb, .int .u8 x.n] w fun e w' => e = .returned (.tuple #[]) ∧
      (∃ s', w'.ownsRow base 5 1 (.slice (some ⟨g, 0, none⟩) N C) N (cs s') ∧ ∀ i, gt s' i = gt s i + if off ≤ i ∧ i < off + m then gt q (i - off) * x else 0) ∧ w.grownBy w' (some g) := by
  have hqm := hq.max
  go_enter Try.func68, Try.ntmps68
  go_wp2
  go_loopw [10] (fun i wr => ∃ (k : Nat) (s' : List F), k ≤ m ∧ i = .int .i64 k ∧ wr.ownsRow base 5 1 (.slice (some ⟨g, 0, none⟩) N C) N (cs s') ∧ w.grownBy wr (some g) ∧ Hid (∀ i, gt s' i = gt s i + if off ≤ i ∧ i < off + k then gt q (i - off) * x else 0)) (fun i _ => m - (intOf i).toNat)
  case atStart => exact ⟨0, s, by omega, rfl, hown, World.grownBy.refl _ _, fun i => by rw [if_neg (by omega), add_zero]⟩
  case round =>
    clear hown
    obtain ⟨k, s', hk, rfl, hown, hgr, hg⟩ := hrel
    by_cases hlt : k < m
    · obtain ⟨b, o, rfl, hb, hc⟩ := hq.at_ hlt
      have hbg := hB _ rfl
      have hc1 : wr.cell? ⟨b, o + k, none⟩ = some (.int .u8 (gt q k).n) := hgr.cell hc (fun e => hbg (by injection e))
      have hf := hown.frozenAt (off + k)
      have hl := own_len hown
      have hc2 := hown.cellAt (off + k) (by omega)
      rw [cs_at (by omega)] at hc2
      have hst := (hown.stored (off + k) (.int .u8 (gt s' (off + k) + gt q k * x).n)).1
      have hst2 := (hown.stored (off + k) (.int .u8 (gt s' (off + k) + gt q k * x).n)).2
      rw [cs_set] at hst
      have HST := Lib.hid hst
      have HST2 := Lib.hid hst2
      have HL := Lib.hid hl
      clear hst hst2 hl hc hb hbg
      have hkt : (k : Int) < tn := by omega
      go_wp2
      go_region_with ((first | (go_at_call 54; refine (Mul_c _ _ _).mono ?_; rintro e w' ⟨rfl, rfl⟩) | (go_at_call 53; refine (Add_c _ _ _).mono ?_; rintro e w' ⟨rfl, rfl⟩)))
      all_goals go_wp2
      all_goals
        go_roundw
        case rel =>
          have hgr2 := hgr.trans HST2.out
          refine ⟨k + 1, s'.set (off + k) (gt s' (off + k) + gt q k * x), by omega, by go_num, HST.out.drew, ⟨hgr2.os, hgr2.tape, hgr2.output, hgr2.size, hgr2.block⟩, fun i => ?_⟩
          rw [gt_set _ _ _ _ (by rw [HL.out]; omega), hg.out, hg.out]
          by_cases hi : i = off + k
          · subst hi
            rw [if_pos rfl, if_neg (by omega), add_zero, if_pos (by omega), show off + k - off = k by omega]
          · rw [if_neg hi]
            by_cases h3 : off ≤ i ∧ i < off + k
            · rw [if_pos h3, if_pos (by omega)]
            · rw [if_neg h3, if_neg (by omega)]
        case measure => simp [intOf]; omega
    · obtain rfl : k = m := by omega
      go_wp2
      go_end0
      exact ⟨rfl, ⟨s', hown, hg.out⟩, hgr⟩
end Go.Proofs.Ytbmkcnlcffnjgaa
