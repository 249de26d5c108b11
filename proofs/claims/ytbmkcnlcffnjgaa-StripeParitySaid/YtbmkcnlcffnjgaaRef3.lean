/-
  THE CONTRACTS OF THE DOCUMENT's OWN ANSWERS FOR LAYER 2: Add, Eval, Mul, Unlike. Rows of at most 2^30 bytes.
-/
import Derived.Test.YtbmkcnlcffnjgaaRef2
namespace Go.Proofs.Ytbmkcnlcffnjgaa
open Go.RowKit
set_option maxRecDepth 100000
set_option linter.unusedVariables false

theorem own_none {w : World} {base n c : Nat} {e : TypeId} {A : Option Addr} {xs : List Value} (h : w.ownsRow base e 1 (.slice A n c) n xs) : A = none → c = 0 := by
  intro hA
  rcases h.2 with ⟨hv, _⟩ | ⟨g, cap, _, hv, _⟩
  · injection hv
  · injection hv with hA2
    rw [hA] at hA2
    cases hA2
set_option maxHeartbeats 1000000 in
theorem RefAdd_c (A B : Option Addr) (n m ca cb : Nat) (p q : List F) (w : World) (hp : Row w A n p) (hq : Row w B m q) (hn : n ≤ 1073741824) (hm : m ≤ 1073741824) :
    Calls Try.prog 63 #[.slice A n ca, .slice B m cb] w fun e w' => ∃ A' t c', e = .returned (.slice A' t c') ∧ w'.ownsRow w.heap.size 5 1 (.slice A' t c') t (cs (tr (padd p q))) ∧ Below w.heap.size w w' := by
  obtain ⟨i0, hi, hz0, hz1, hz2⟩ := info_parts info_u8
  obtain ⟨N, hN⟩ : ∃ N, max n m = N := ⟨_, rfl⟩
  have hNn : n ≤ N := by omega
  have hNm : m ≤ N := by omega
  have hNo : N ≤ n ∨ N ≤ m := by omega
  have hN30 : N ≤ 1073741824 := by omega
  have HLP := Lib.hid hp.len
  have HLQ := Lib.hid hq.len
  clear hN
  go_enter Try.func63, Try.ntmps63
  go_wp2
  go_loopw [5, 6] (fun v i wr => ∃ (k : Nat) (V : Option Addr) (cv : Nat), k ≤ N ∧ i = .int .i64 k ∧ v = .slice V k cv ∧ wr.ownsRow w.heap.size 5 1 (.slice V k cv) k (cs (mkF (fun i => gt p i + gt q i) k)) ∧ Below w.heap.size w wr) (fun _ i _ => N - (intOf i).toNat)
  case atStart => exact ⟨0, _, _, by omega, rfl, rfl, World.ownsRow_made w #[] 0 (Nat.le_refl _) (Nat.zero_le _) rfl, (Below.refl _ _).alloc (Nat.le_refl _) _⟩
  case round =>
    obtain ⟨k, V, cv, hk, rfl, rfl, hown, hbel⟩ := hrel
    have hp1 := hp.below hbel
    have hq1 := hq.below hbel
    by_cases hlt : k < N
    · have hx := bits_xor (gt p k) (gt q k)
      have hbs := hbel.size
      by_cases h1 : k < n
      all_goals
        go_wp2_with (first
          | (go_at_call 69; (with_reducible refine (at_c A n ca p _ _ hp1 (by omega) (by omega)).mono ?_); rintro e w' ⟨rfl, rfl⟩; rw [Int.toNat_natCast])
          | (go_at_call 69; (with_reducible refine (at_c B m cb q _ _ hq1 (by omega) (by omega)).mono ?_); rintro e w' ⟨rfl, rfl⟩; rw [Int.toNat_natCast])
          | (at_builtin; refine wpList_append_own _ rfl _ _ 22 rfl w.heap.size 5 i0 (.int .u8 0) 1 1 Try.underlying22 hi hz0 hz1 hz2 rfl (by decide) _ _ _ rfl (hown.alloc _) ⟨wr.heap.size, 0, none⟩ 1 1 [.int .u8 (gt p k + gt q k).n] rfl rfl (one_cell wr _ _) (by intro u hu; simp at hu; subst hu; rfl) (by unfold maxLen; omega) (by omega) (by simp; omega) ?_; intro v' w1 hown' hgrow hnil))
        obtain ⟨V', cv', hv, _⟩ := own_shape hown'
        subst hv
        go_wp2
        go_roundw
        case rel =>
          refine ⟨k + 1, V', cv', by omega, by go_num, rfl, ?_, (hbel.alloc hbel.size _).grown hgrow (by have := hbel.size; simp; omega) (fun g hg => (hown.lt g hg).1)⟩
          show w1.ownsRow _ _ _ _ _ (cs (mkF (fun i => gt p i + gt q i) k ++ [gt p k + gt q k]))
          rw [cs_append]
          exact hown'
        case measure => simp [intOf]; omega
    · obtain rfl : k = N := by omega
      have hin := own_in hown

      have hmx := hin.row.max
      have htr : Hid (tr (padd p q) = tr (mkF (fun i => gt p i + gt q i) k)) := tr_ext fun i => by
        rw [gt_padd, gt_mkF]
        split
        · rfl
        · rw [gt_ge (by rw [HLP.out]; omega), gt_ge (by rw [HLQ.out]; omega), add_zero]
      have hnn : ¬ k < n := by omega
      have hmm : ¬ k < m := by omega
      go_wp2_with (go_at_call 70; refine (RefTrim_c V k cv _ _ hin (by omega)).mono ?_; rintro e w5 ⟨A', c', rfl, hown5, hbel5⟩)
      go_ret
      rw [htr.out]
      exact ⟨A', _, c', rfl, own_base hown5 hbel.size, hbel.trans (hbel5.mono hbel.size)⟩
end Go.Proofs.Ytbmkcnlcffnjgaa
