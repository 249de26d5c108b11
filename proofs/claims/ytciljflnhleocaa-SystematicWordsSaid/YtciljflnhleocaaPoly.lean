/-
  THE CONTRACTS OF PACKAGE poly: Clone, Degree, Trim. Rows are as great as memory lets them be.
-/
import Derived.Test.YtciljflnhleocaaGf4
import Derived.Test.YtciljflnhleocaaPl
import Derived.Deep.RegionHeld3
import Derived.Deep.AppendLies
import Derived.Lib.SliceRun
namespace Go.Proofs.Ytciljflnhleocaa
open Go.RowKit
set_option linter.unusedVariables false

theorem bits_xor (x y : F) : bits BinOp.xor IntKind.u8 (x.n : Int) (y.n : Int) = ((x + y).n : Int) := by
  rw [u8_xor_nat _ _ x.lt y.lt, add_n]
set_option maxHeartbeats 400000 in
theorem Degree_c (A : Option Addr) (n c : Nat) (l : List F) (w : World) (h : Row w A n l) :
    Calls Try.prog 81 #[.slice A n c] w fun e w' => e = .returned (.int .i64 ((tl l n : Int) - 1)) ∧ w = w' := by
  have hm := h.max
  go_enter Try.func81, Try.ntmps81
  go_wp2
  go_loop [3] (fun i => ∃ k : Nat, k ≤ n ∧ i = .int .i64 ((k : Int) - 1) ∧ Hid (tl l k = tl l n)) (fun i => (intOf i + 1).toNat)
  case atStart => exact ⟨n, Nat.le_refl _, rfl, rfl⟩
  case round =>
    obtain ⟨k, hk, rfl, ht⟩ := hrel
    by_cases hk0 : 1 ≤ k
    · obtain ⟨j, rfl⟩ : ∃ j, k = j + 1 := ⟨k - 1, by omega⟩
      obtain ⟨b, o, rfl, _, hc⟩ := h.at_ (k := j) (by omega)
      have hb := n_beq (gt l j)
      have e : ((j + 1 : Nat) : Int) - 1 = (j : Int) := by omega
      rw [e]
      by_cases hz : gt l j = 0
      · rw [decide_eq_true hz] at hb
        have ht2 : Hid (tl l j = tl l n) := by
          have h1 := ht.out
          rw [tl_down hz] at h1
          exact h1
        clear hz ht e
        go_wp2
        go_round
        case rel => exact ⟨j, by omega, rfl, ht2⟩
        case measure => simp [intOf] <;> omega
      · rw [decide_eq_false hz] at hb
        have ht2 : Hid ((j : Int) = (tl l n : Int) - 1) := by
          have h1 := ht.out
          rw [tl_here hz] at h1
          unfold Hid
          omega
        clear hz ht e
        go_wp2
        go_ret
        exact ⟨ret_i64 ht2.out, rfl⟩
    · obtain rfl : k = 0 := by omega
      have ht2 : Hid (((0 : Nat) : Int) - 1 = (tl l n : Int) - 1) := by
        have h1 := ht.out
        rw [tl_none] at h1
        unfold Hid
        omega
      go_wp2
      go_ret
      exact ⟨ret_i64 ht2.out, rfl⟩

/-! ### Copies -/
theorem own_shape {w : World} {base n : Nat} {e : TypeId} {v : Value} {xs : List Value} (h : w.ownsRow base e 1 v n xs) : ∃ A c, v = .slice A n c ∧ (n ≤ c ∧ c ≤ maxLen) := by
  rcases h.2 with ⟨rfl, rfl⟩ | ⟨g, cap, _, rfl, _, _, h1, h2, _⟩
  · exact ⟨none, 0, rfl, Nat.le_refl _, by unfold maxLen; omega⟩
  · exact ⟨_, cap, rfl, h1, h2⟩
theorem Row.none_nil {w : World} {n : Nat} {l : List F} (h : Row w none n l) : n = 0 ∧ l = [] := by
  have hn : n = 0 := by
    rcases Nat.eq_zero_or_pos n with h0 | h0
    · exact h0
    · obtain ⟨_, _, e, _⟩ := h.at_ h0
      cases e
  subst hn
  exact ⟨rfl, List.eq_nil_of_length_eq_zero h.len⟩
theorem Row.cells {w : World} {ad : Addr} {n : Nat} {l : List F} (h : Row w (some ad) n l) : ∀ j u, (cs l)[j]? = some u → w.cell? (ad.add j) = some u := by
  intro j u hu
  have hj : j < (cs l).length := (List.getElem?_eq_some_iff.1 hu).1
  rw [cs_length] at hj
  have hjn : j < n := by have := h.len; omega
  obtain ⟨b, off, e, _, hc⟩ := h.at_ hjn
  injection e with e
  subst e
  have e2 : (⟨b, off, none⟩ : Addr).add j = ⟨b, off + j, none⟩ := by unfold Addr.add; split <;> simp_all
  rw [cs_at hj] at hu
  rw [e2, hc]
  exact hu
set_option maxHeartbeats 400000 in
theorem Clone_c (A : Option Addr) (n c : Nat) (l : List F) (w : World) (h : Row w A n l) (hn : n ≤ 140737488355328) :
    Calls Try.prog 59 #[.slice A n c] w fun e w' => ∃ A' c', e = .returned (.slice A' n c') ∧ w'.ownsRow w.heap.size 5 1 (.slice A' n c') n (cs l) ∧ Below w.heap.size w w' := by
  obtain ⟨i0, hi, hz0, hz1, hz2⟩ := info_parts info_u8
  have q22 : ∀ (w : World) (a : Option Addr) (n c n' c' : Nat), (binOp .eql 23 (.slice a n c) (.slice none n' c')).run Try.prog w = .ok (.bool a.isNone) w := fun w a n c n' c' => Lib.run_eql_slice_nil w _ _ a n c n' c' Try.underlying23
  cases A with
  | none =>
    obtain ⟨rfl, rfl⟩ := h.none_nil
    go_enter Try.func59, Try.ntmps59
    go_wp2
    go_ret
    exact ⟨none, 0, rfl, World.ownsRow_nil _ _ _ _, Below.refl _ _⟩
  | some ad =>
    have hl := h.len
    have hm := h.max
    have h1 := (h.alloc (.cells #[] 5)).cells
    have HC := Lib.hid h1
    clear h1
    have HL := Lib.hid hl
    clear hl
    go_enter Try.func59, Try.ntmps59
    go_wp2_with (at_builtin; refine wpList_append_own _ rfl _ _ 23 rfl w.heap.size 5 i0 (.int .u8 0) 1 1 Try.underlying23 hi hz0 hz1 hz2 rfl (by decide) _ _ _ rfl (World.ownsRow_made w #[] 0 (Nat.le_refl _) (Nat.zero_le _) rfl) ad n c (cs l) rfl (by rw [cs_length, HL.out, Nat.mul_one]) HC.out (cs_one l) (by unfold maxLen; omega) (by omega) (by simp) ?_; intro v' w1 hown hgrow hnil)
    obtain ⟨A', c', hv, _⟩ := own_shape hown
    rw [Nat.zero_add] at hv
    subst hv
    go_wp2
    go_ret
    refine ⟨A', c', rfl, by simpa using hown, ?_⟩
    exact ((Below.refl _ w).alloc (Nat.le_refl _) _).grown hgrow (by simp) (fun k hk => by cases hk; exact Nat.le_refl _)
end Go.Proofs.Ytciljflnhleocaa
