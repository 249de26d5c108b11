/-
  THE CONTRACTS OF THE DOCUMENT's OWN ANSWERS FOR LAYER 2: Eval, Mul, Unlike. Rows of at most 2^30 bytes.
-/
import Derived.Test.YtbmkcnlcffnjgaaRef3
namespace Go.Proofs.Ytbmkcnlcffnjgaa
open Go.RowKit
set_option maxRecDepth 100000
set_option linter.unusedVariables false

set_option maxHeartbeats 1000000 in
theorem RefEval_c (A : Option Addr) (n c : Nat) (l : List F) (x : F) (w : World) (h : Row w A n l) :
    Calls Try.prog 52 #[.slice A n c, .int .u8 x.n] w fun e w' => e = .returned (.int .u8 (ev l x).n) ∧ w = w' := by
  have hm := h.max
  have hev : Hid (ev l x = sm n fun i => gt l i * pw x i) := ev_sm l n (by rw [h.len]; exact Nat.le_refl _) x
  go_enter Try.func52, Try.ntmps52
  go_wp2
  go_loop [5, 6, 7] (fun v p i => ∃ k : Nat, k ≤ n ∧ i = .int .i64 k ∧ v = .int .u8 (sm k fun i => gt l i * pw x i).n ∧ p = .int .u8 (pw x k).n) (fun _ _ i => n - (intOf i).toNat)
  case atStart => exact ⟨0, by omega, rfl, rfl, rfl⟩
  case round =>
    obtain ⟨k, hk, rfl, rfl, rfl⟩ := hrel
    by_cases hlt : k < n
    · obtain ⟨b, o, rfl, _, hc⟩ := h.at_ hlt
      have hx := bits_xor (sm k fun i => gt l i * pw x i) (gt l k * pw x k)
      have hkn : (k : Int) < n := by omega
      go_wp2_with (go_at_call 61; refine (RefMul_c _ _ _).mono ?_; rintro e w' ⟨rfl, rfl⟩)
      go_round
      case rel => exact ⟨k + 1, by omega, by go_num, rfl, rfl⟩
      case measure => simp [intOf]; omega
    · obtain rfl : k = n := by omega
      go_wp2
      go_ret
      exact ⟨ret_u8 (by rw [hev.out]), rfl⟩

set_option maxHeartbeats 1000000 in
theorem RefMul_p (A B : Option Addr) (n m ca cb : Nat) (p q : List F) (w : World) (hp : Row w A n p) (hq : Row w B m q) (hn : n ≤ 1073741824) (hm : m ≤ 1073741824) :
    Calls Try.prog 60 #[.slice A n ca, .slice B m cb] w fun e w' => ∃ A' t c', e = .returned (.slice A' t c') ∧ w'.ownsRow w.heap.size 5 1 (.slice A' t c') t (cs (tr (pmul p q))) ∧ Below w.heap.size w w' := by
  obtain ⟨i0, hi, hz0, hz1, hz2⟩ := info_parts info_u8
  have HLP := Lib.hid hp.len
  have HLQ := Lib.hid hq.len
  go_enter Try.func60, Try.ntmps60
  go_wp2
  go_loopw [5, 6] (fun v i wr => ∃ (k : Nat) (V : Option Addr) (cv : Nat), k ≤ n + m ∧ i = .int .i64 k ∧ v = .slice V k cv ∧ wr.ownsRow w.heap.size 5 1 (.slice V k cv) k (cs (mkF (fun i => gt (pmul p q) i) k)) ∧ Below w.heap.size w wr) (fun _ i _ => n + m - (intOf i).toNat)
  case atStart => exact ⟨0, _, _, by omega, rfl, rfl, World.ownsRow_made w #[] 0 (Nat.le_refl _) (Nat.zero_le _) rfl, (Below.refl _ _).alloc (Nat.le_refl _) _⟩
  case round =>
    obtain ⟨k, V, cv, hk, rfl, rfl, hown, hbel⟩ := hrel
    have hp1 := hp.below hbel
    have hq1 := hq.below hbel
    by_cases hlt : k < n + m
    · have hbs := hbel.size
      have hkN : (k : Int) < (n : Int) + (m : Int) := by omega
      have hgp : Hid (sm (k + 1) (fun j => gt p j * gt q (k - j)) = gt (pmul p q) k) := (gt_pmul p q k).symm
      go_wp2
      go_loop [7, 8] (fun c j => ∃ d : Nat, d ≤ k + 1 ∧ j = .int .i64 d ∧ c = .int .u8 (sm d fun j => gt p j * gt q (k - j)).n) (fun _ j => k + 1 - (intOf j).toNat)
      case atStart => exact ⟨0, by omega, rfl, rfl⟩
      case round =>
        obtain ⟨d, hd, rfl, rfl⟩ := hrel
        by_cases hdk : d ≤ k
        · have hx := bits_xor (sm d fun j => gt p j * gt q (k - j)) (gt p d * gt q (k - d))
          have hsub : ((k : Int) - (d : Int)).toNat = k - d := by omega
          have HSUB := Lib.hid hsub
          clear hsub
          go_wp2_with (first
            | (go_at_call 69; (with_reducible refine (at_c A n ca p _ _ hp1 (by omega) (by omega)).mono ?_); rintro e w' ⟨rfl, rfl⟩; rw [Int.toNat_natCast])
            | (go_at_call 69; (with_reducible refine (at_c B m cb q _ _ hq1 (by omega) (by omega)).mono ?_); rintro e w' ⟨rfl, rfl⟩; rw [HSUB.out])
            | (go_at_call 61; refine (RefMul_c _ _ _).mono ?_; rintro e w' ⟨rfl, rfl⟩))
          go_round
          case rel => exact ⟨d + 1, by omega, by go_num, rfl⟩
          case measure => simp [intOf]; omega
        · obtain rfl : d = k + 1 := by omega
          rw [hgp.out]
          go_wp2_with (at_builtin; refine wpList_append_own _ rfl _ _ 22 rfl w.heap.size 5 i0 (.int .u8 0) 1 1 Try.underlying22 hi hz0 hz1 hz2 rfl (by decide) _ _ _ rfl (hown.alloc _) ⟨wr.heap.size, 0, none⟩ 1 1 [.int .u8 (gt (pmul p q) k).n] rfl rfl (one_cell wr _ _) (by intro u hu; simp at hu; subst hu; rfl) (by unfold maxLen; omega) (by omega) (by simp; omega) ?_; intro v' w1 hown' hgrow hnil)
          obtain ⟨V', cv', hv, _⟩ := own_shape hown'
          subst hv
          go_wp2
          go_roundw
          case rel =>
            refine ⟨k + 1, V', cv', by omega, by go_num, rfl, ?_, (hbel.alloc hbel.size _).grown hgrow (by have := hbel.size; simp; omega) (fun g hg => (hown.lt g hg).1)⟩
            show w1.ownsRow _ _ _ _ _ (cs (mkF (fun i => gt (pmul p q) i) k ++ [gt (pmul p q) k]))
            rw [cs_append]
            exact hown'
          case measure => simp [intOf]; omega
    · obtain rfl : k = n + m := by omega
      have hin := own_in hown

      have htr : Hid (tr (pmul p q) = tr (mkF (fun i => gt (pmul p q) i) (n + m))) := tr_ext fun i => by
        rw [gt_mkF]
        split
        · rfl
        · have := pmul_length_le p q
          rw [HLP.out, HLQ.out] at this
          exact gt_ge (by omega)
      go_wp2_with (go_at_call 70; refine (RefTrim_c V (n + m) cv _ _ hin (by omega)).mono ?_; rintro e w5 ⟨A', c', rfl, hown5, hbel5⟩)
      go_ret
      rw [htr.out]
      exact ⟨A', _, c', rfl, own_base hown5 hbel.size, hbel.trans (hbel5.mono hbel.size)⟩

end Go.Proofs.Ytbmkcnlcffnjgaa
