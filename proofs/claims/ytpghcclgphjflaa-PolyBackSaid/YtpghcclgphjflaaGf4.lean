/-
  THE CONTRACT OF LAW 01's OWN EXAMPLES (alive), and bytes as strings. No conditions.
-/
import Derived.Test.YtpghcclgphjflaaScale2
import Derived.Laws.IdiomStrings
import Derived.ProofKit
namespace Go.Proofs.Ytpghcclgphjflaa
open Go.RowKit

/-- a row's bytes as a string -/
def strB (l : List F) : ByteArray := ⟨(l.map toB).toArray⟩
theorem run_row_string {w : World} {A : Option Addr} {n : Nat} {l : List F} (c : Nat) (h : Row w A n l) :
    (convert 31 9 (.slice A n c)).run Try.prog w = .ok (.string (strB l)) w := by
  cases A with
  | none =>
    have hn : n = 0 := by
      rcases Nat.eq_zero_or_pos n with h0 | h0
      · exact h0
      · obtain ⟨_, _, e, _⟩ := h.at_ h0
        cases e
    subst hn
    have hl : l = [] := List.eq_nil_of_length_eq_zero h.len
    subst hl
    rw [run_convert_bytes_string w _ _ _ none 0 c Try.underlying31 Try.underlying5 Try.underlying9]
    simp [Conv.bytesToString, strB, Sem.run_pure, ByteArray.empty, ByteArray.emptyWithCapacity]
    rfl
  | some ad =>
    have hl : n = (l.map toB).length := by rw [List.length_map, h.len]
    rw [hl]
    refine run_convert_bytes_back w _ _ _ ad c (l.map toB) Try.underlying31 Try.underlying5 Try.underlying9 (fun j hj => ?_)
    rw [List.length_map] at hj
    have hjn : j < n := by have := h.len; omega
    obtain ⟨b, off, e, _, hc⟩ := h.at_ hjn
    injection e with e
    subst e
    have e2 : (⟨b, off, none⟩ : Addr).add j = ⟨b, off + j, none⟩ := by unfold Addr.add; split <;> simp_all
    rw [e2, hc, gt_lt hj]
    simp [F.n, toB]
theorem strB_inj {l m : List F} (h : strB l = strB m) : l = m := by
  unfold strB at h
  injection h with h
  have h2 := congrArg Array.toList h
  simp only [] at h2
  exact (List.map_inj_right (fun x y e => e)).1 h2

/-- a row that was just laid -/
theorem row_lit (w : World) (l : List F) (n g : Nat) (hn : n = l.length) (hg : g = w.heap.size) (hl : l.length ≤ maxLen) (C : Array Value) (hC : C = (cs l).toArray) (t : TypeId) : Row (w.alloc (.cells C t)) (some ⟨g, 0, none⟩) n l := by
  subst hn hg hC
  refine ⟨rfl, hl, fun _ => ⟨w.heap.size, 0, rfl, by simp, fun i hi => ?_⟩⟩
  have h := heap_alloc_new w (.cells (cs l).toArray t)
  rw [Nat.zero_add, cell_of_row _ _ i _ t (0, 0) h]
  simpa using cs_at hi
theorem ex_dot (w : World) (g g' : Nat) (h1 : Row w (some ⟨g, 0, none⟩) 2 [2, ofN 9]) (h2 : Row w (some ⟨g', 0, none⟩) 1 [ofN 128]) : Calls Try.prog 26 #[.slice (some ⟨g, 0, none⟩) 2 2, .slice (some ⟨g', 0, none⟩) 1 1] w fun e w' => e = .returned (.int .u8 29) ∧ ∃ q, w' = w.drewN q := by
  have h := Dot_c _ _ 2 1 2 1 _ _ w h1 h2
  rw [show (dotF [2, ofN 9] [ofN 128] (min 2 1)).n = 29 by decide +kernel] at h
  exact h
theorem ex_scale (w : World) (g : Nat) (h1 : Row w (some ⟨g, 0, none⟩) 1 [ofN 128]) : Calls Try.prog 25 #[.slice (some ⟨g, 0, none⟩) 1 1, .int .u8 2] w fun e w' => ∃ g', e = .returned (.slice (some ⟨g', 0, none⟩) 1 1) ∧ Row w' (some ⟨g', 0, none⟩) 1 [ofN 29] ∧ Below w.heap.size w w' := by
  have h := Scale_c _ 1 1 _ 2 w h1 (by omega)
  refine h.mono ?_
  rintro e w' ⟨g', rfl, ho, hb⟩
  exact ⟨g', rfl, Row.of_own ho, hb⟩
section
variable (w : World)
theorem ex_div : Calls Try.prog 15 #[.int .u8 29, .int .u8 2] w fun e w' => e = .returned (.tuple #[.int .u8 128, .bool true]) ∧ w = w' := by
  have h := Div_c (ofN 29) 2 w
  rw [show (divF (ofN 29) 2).n = 128 by decide +kernel] at h
  exact h
theorem ex_div0 : Calls Try.prog 15 #[.int .u8 1, .int .u8 0] w fun e w' => e = .returned (.tuple #[.int .u8 0, .bool false]) ∧ w = w' := by
  have h := Div_c 1 0 w
  exact h
theorem ex_mul : Calls Try.prog 21 #[.int .u8 128, .int .u8 2] w fun e w' => e = .returned (.int .u8 29) ∧ w = w' := by
  have h := Mul_c (ofN 128) 2 w
  rw [show (ofN 128 * (2 : F)).n = 29 by decide +kernel] at h
  exact h
theorem ex_inv : Calls Try.prog 22 #[.int .u8 1] w fun e w' => e = .returned (.int .u8 1) ∧ w = w' := by
  have h := Inv_c 1 w
  rw [show (inv 1).n = 1 by decide +kernel] at h
  exact h
theorem ex_exp : Calls Try.prog 24 #[.int .i64 8] w fun e w' => e = .returned (.int .u8 29) ∧ w = w' := by
  have h := Exp_c 8 w
  rw [show (pwZ 2 8).n = 29 by decide +kernel] at h
  exact h
theorem ex_log : Calls Try.prog 16 #[.int .u8 29] w fun e w' => e = .returned (.int .i64 8) ∧ w = w' := by
  have h := Log_c (ofN 29) w
  rw [lg_at (a := ofN 29) (k := 8) (by omega) (by decide +kernel)] at h
  exact h
theorem ex_log0 : Calls Try.prog 16 #[.int .u8 0] w fun e w' => e = .returned (.int .i64 (-1)) ∧ w = w' := by
  have h := Log_c 0 w
  rw [lg_zero] at h
  exact h
theorem ex_pow : Calls Try.prog 23 #[.int .u8 3, .int .i64 255] w fun e w' => e = .returned (.int .u8 1) ∧ w = w' := by
  have h := Pow_c (ofN 3) 255 w
  rw [show (pwZ (ofN 3) 255).n = 1 by decide +kernel] at h
  exact h
theorem ex_add : Calls Try.prog 20 #[.int .u8 5, .int .u8 3] w fun e w' => e = .returned (.int .u8 6) ∧ w = w' := by
  have h := Add_c (ofN 5) (ofN 3) w
  exact h
end
set_option maxHeartbeats 1000000 in
set_option maxRecDepth 100000 in
theorem alive01_c (w : World) : Calls Try.prog 14 #[] w fun e w' => e = .returned (.bool true) ∧ Below w.heap.size w w' := by
  go_enter Try.func14, Try.ntmps14
  go_wp2_with (first
    | (go_at_call 15; (with_reducible refine (ex_div _).mono ?_); rintro e w' ⟨rfl, rfl⟩)
    | (go_at_call 15; (with_reducible refine (ex_div0 _).mono ?_); rintro e w' ⟨rfl, rfl⟩)
    | (go_at_call 21; (with_reducible refine (ex_mul _).mono ?_); rintro e w' ⟨rfl, rfl⟩)
    | (go_at_call 22; (with_reducible refine (ex_inv _).mono ?_); rintro e w' ⟨rfl, rfl⟩)
    | (go_at_call 24; (with_reducible refine (ex_exp _).mono ?_); rintro e w' ⟨rfl, rfl⟩)
    | (go_at_call 16; (with_reducible refine (ex_log _).mono ?_); rintro e w' ⟨rfl, rfl⟩)
    | (go_at_call 16; (with_reducible refine (ex_log0 _).mono ?_); rintro e w' ⟨rfl, rfl⟩)
    | (go_at_call 23; (with_reducible refine (ex_pow _).mono ?_); rintro e w' ⟨rfl, rfl⟩)
    | (go_at_call 20; (with_reducible refine (ex_add _).mono ?_); rintro e w' ⟨rfl, rfl⟩)
    | (go_at_call 26; refine (ex_dot _ (w.heap.size) (w.heap.size + 1) ((row_lit w [2, ofN 9] 2 _ rfl rfl (by unfold maxLen; simp) _ rfl 5).alloc _) (row_lit _ [ofN 128] 1 _ rfl (by simp) (by unfold maxLen; simp) _ rfl 5)).mono ?_; rintro e w' ⟨rfl, q, rfl⟩)
    | (go_at_call 25; refine (ex_scale _ (w.heap.size + 2) (row_lit _ [ofN 128] 1 _ rfl (by simp) (by unfold maxLen; simp) _ rfl 5)).mono ?_; rintro e w' ⟨g', rfl, hr, hb⟩; have hcv := run_row_string 1 hr))
  go_ret
  have e1 : ((strB [ofN 29]).toList == [29]) = true := by decide +kernel
  refine ⟨congrArg (fun b => Ending.returned (.bool b)) e1, ?_⟩
  exact (below_drewN (((Below.refl _ w).alloc (Nat.le_refl _) _).alloc (by simp) _) q).alloc (by simp; omega) _ |>.trans (hb.mono (by simp; omega))
end Go.Proofs.Ytpghcclgphjflaa
