/-
  TAILS: the document's held, End. No conditions.
-/
import Derived.Test.YthpgeehfmblbhaaTle
namespace Go.Proofs.Ythpgeehfmblbhaa
open Go.RowKit
set_option maxRecDepth 100000
set_option linter.unusedVariables false

theorem RHeld_c (n m : Nat) (x z : Int) (hx : x = (n : Int)) (hz : z = (m : Int)) (hn : n < 18446744073709551616) (hm : m < 18446744073709551616) (w : World) :
    Calls Try.prog 25 #[.int .u64 x, .int .u64 z] w fun e w' => e = .returned (.int .u64 ((min n m : Nat) : Int)) ∧ w' = w := by
  subst hx hz
  go_enter Try.func25, Try.ntmps25
  by_cases h : m < n
  · have h1 : ((m : Int) < (n : Int)) := by omega
    have h2 : min n m = m := by omega
    rw [h2]
    clear h2
    go_wp2
    go_ret
    try exact ⟨rfl, rfl⟩
  · have h1 : ¬ ((m : Int) < (n : Int)) := by omega
    have h2 : min n m = n := by omega
    rw [h2]
    clear h2
    go_wp2
    go_ret
    try exact ⟨rfl, rfl⟩
theorem Blk.allocT {W : World} {g : Nat} {t : TypeId} {C : Array Value} (h : Blk W g t C) (o : Obj) : Blk (W.alloc o) g t C := h.below h.lt ((Below.refl _ _).alloc (Nat.le_refl _) o)
theorem Blk.drewT {W : World} {g : Nat} {t : TypeId} {C : Array Value} (h : Blk W g t C) : Blk W.drew g t C := h.below h.lt (below_drewL (Below.refl _ _))
theorem Blk.newT {W : World} {g : Nat} {t : TypeId} {C : Array Value} (hg : g = W.heap.size) : Blk (W.alloc (.cells C t)) g t C := by
  subst hg
  exact Blk.new _ _ _
theorem tlNum2_c (P : List (Nat × Nat)) (hP : NsOk P) (n : Nat) (hn : P.length = n) (hn1 : n ≤ 100) (C D : Array Value) (hC : C = ((P.map fun p => (p.1 : Int)).map (Value.int .u64)).toArray) (hD : D = ((P.map fun p => (p.2 : Int)).map (Value.int .i64)).toArray) (T S : TypeId) (w W : World) (a b : Nat) (b1 : Blk W a T C) (b2 : Blk W b S D) (ca cb : Nat) (h2 : Below w.heap.size w W) :
    Calls Try.prog 22 #[.slice (some ⟨a, 0, none⟩) n ca, .slice (some ⟨b, 0, none⟩) n cb] W fun e w' => ∃ A c N, e = .returned (.slice A N c) ∧ w'.ownsRow w.heap.size 5 1 (.slice A N c) N (cs (nsB P)) ∧ N = nsN P ∧ Below w.heap.size w w' := by
  have i1 := irow_blk b1 (P.map fun p => (p.1 : Int)) n hC (by rw [List.length_map]; exact hn) (by unfold maxLen; omega) (by
    intro x hx
    obtain ⟨q, hq, rfl⟩ := List.mem_map.1 hx
    exact wfU64 _ (hP q hq).1)
  have i2 := irow_blk b2 (P.map fun p => (p.2 : Int)) n hD (by rw [List.length_map]; exact hn) (by unfold maxLen; omega) (by
    intro x hx
    obtain ⟨q, hq, rfl⟩ := List.mem_map.1 hx
    exact wfI _ (by have := (hP q hq).2; omega))
  refine (RNumbers_c _ n ca _ n cb P hP (by omega) _ i1 i2).mono ?_
  rintro e w3 ⟨A, c, N, rfl, hown, hN, hb3⟩
  exact ⟨A, c, N, rfl, own_base2 hown h2.size, hN, Below.then_ h2 hb3⟩
end Go.Proofs.Ythpgeehfmblbhaa
