/-
  THE CONTRACT OF LAW 01's OWN EXAMPLES (alive), and bytes as strings. No conditions.
-/
import Derived.Test.YtciljflnhleocaaScale2
import Derived.Laws.IdiomStrings
import Derived.ProofKit
namespace Go.Proofs.Ytciljflnhleocaa
open Go.RowKit
set_option maxRecDepth 100000

/-- a row's bytes as a string -/
def strB (l : List F) : ByteArray := ⟨(l.map toB).toArray⟩
theorem run_row_string {w : World} {A : Option Addr} {n : Nat} {l : List F} (c : Nat) (h : Row w A n l) :
    (convert 23 9 (.slice A n c)).run Try.prog w = .ok (.string (strB l)) w := by
  cases A with
  | none =>
    have hn : n = 0 := by
      rcases Nat.eq_zero_or_pos n with h0 | h0
      · exact h0
      · obtain ⟨_, _, e, _⟩ := h.at_ h0
        cases e
    subst hn
    have hl : l = [] := List.eq_nil_of_length_eq_zero h.len
    subst hl
    rw [run_convert_bytes_string w _ _ _ none 0 c Try.underlying23 Try.underlying5 Try.underlying9]
    simp [Conv.bytesToString, strB, Sem.run_pure, ByteArray.empty, ByteArray.emptyWithCapacity]
    rfl
  | some ad =>
    have hl : n = (l.map toB).length := by rw [List.length_map, h.len]
    rw [hl]
    refine run_convert_bytes_back w _ _ _ ad c (l.map toB) Try.underlying23 Try.underlying5 Try.underlying9 (fun j hj => ?_)
    rw [List.length_map] at hj
    have hjn : j < n := by have := h.len; omega
    obtain ⟨b, off, e, _, hc⟩ := h.at_ hjn
    injection e with e
    subst e
    have e2 : (⟨b, off, none⟩ : Addr).add j = ⟨b, off + j, none⟩ := by unfold Addr.add; split <;> simp_all
    rw [e2, hc, gt_lt hj]
    simp [F.n, toB]
theorem strB_inj {l m : List F} (h : strB l = strB m) : l = m := by
  unfold strB at h
  injection h with h
  have h2 := congrArg Array.toList h
  simp only [] at h2
  exact (List.map_inj_right (fun x y e => e)).1 h2

/-- a row that was just laid -/
theorem row_lit (w : World) (l : List F) (n g : Nat) (hn : n = l.length) (hg : g = w.heap.size) (hl : l.length ≤ maxLen) (C : Array Value) (hC : C = (cs l).toArray) (t : TypeId) : Row (w.alloc (.cells C t)) (some ⟨g, 0, none⟩) n l := by
  subst hn hg hC
  refine ⟨rfl, hl, fun _ => ⟨w.heap.size, 0, rfl, by simp, fun i hi => ?_⟩⟩
  have h := heap_alloc_new w (.cells (cs l).toArray t)
  rw [Nat.zero_add, cell_of_row _ _ i _ t (0, 0) h]
  simpa using cs_at hi
theorem ex_dot (w : World) (g g' : Nat) (h1 : Row w (some ⟨g, 0, none⟩) 2 [2, ofN 9]) (h2 : Row w (some ⟨g', 0, none⟩) 1 [ofN 128]) : Calls Try.prog 46 #[.slice (some ⟨g, 0, none⟩) 2 2, .slice (some ⟨g', 0, none⟩) 1 1] w fun e w' => e = .returned (.int .u8 29) ∧ ∃ q, w' = w.drewN q := by
  have h := Dot_c _ _ 2 1 2 1 _ _ w h1 h2
  rw [show (dotF [2, ofN 9] [ofN 128] (min 2 1)).n = 29 by decide +kernel] at h
  exact h
theorem ex_scale (w : World) (g : Nat) (h1 : Row w (some ⟨g, 0, none⟩) 1 [ofN 128]) : Calls Try.prog 70 #[.slice (some ⟨g, 0, none⟩) 1 1, .int .u8 2] w fun e w' => ∃ g', e = .returned (.slice (some ⟨g', 0, none⟩) 1 1) ∧ Row w' (some ⟨g', 0, none⟩) 1 [ofN 29] ∧ Below w.heap.size w w' := by
  have h := Scale_c _ 1 1 _ 2 w h1 (by omega)
  refine h.mono ?_
  rintro e w' ⟨g', rfl, ho, hb⟩
  exact ⟨g', rfl, Row.of_own ho, hb⟩
section
variable (w : World)
theorem ex_div : Calls Try.prog 68 #[.int .u8 29, .int .u8 2] w fun e w' => e = .returned (.tuple #[.int .u8 128, .bool true]) ∧ w = w' := by
  have h := Div_c (ofN 29) 2 w
  rw [show (divF (ofN 29) 2).n = 128 by decide +kernel] at h
  exact h
theorem ex_div0 : Calls Try.prog 68 #[.int .u8 1, .int .u8 0] w fun e w' => e = .returned (.tuple #[.int .u8 0, .bool false]) ∧ w = w' := by
  have h := Div_c 1 0 w
  exact h
theorem ex_mul : Calls Try.prog 64 #[.int .u8 128, .int .u8 2] w fun e w' => e = .returned (.int .u8 29) ∧ w = w' := by
  have h := Mul_c (ofN 128) 2 w
  rw [show (ofN 128 * (2 : F)).n = 29 by decide +kernel] at h
  exact h
theorem ex_inv : Calls Try.prog 76 #[.int .u8 1] w fun e w' => e = .returned (.int .u8 1) ∧ w = w' := by
  have h := Inv_c 1 w
  rw [show (inv 1).n = 1 by decide +kernel] at h
  exact h
theorem ex_pow : Calls Try.prog 85 #[.int .u8 3, .int .i64 255] w fun e w' => e = .returned (.int .u8 1) ∧ w = w' := by
  have h := Pow_c (ofN 3) 255 w
  rw [show (pwZ (ofN 3) 255).n = 1 by decide +kernel] at h
  exact h
theorem ex_add : Calls Try.prog 63 #[.int .u8 5, .int .u8 3] w fun e w' => e = .returned (.int .u8 6) ∧ w = w' := by
  have h := Add_c (ofN 5) (ofN 3) w
  exact h
end
end Go.Proofs.Ytciljflnhleocaa
