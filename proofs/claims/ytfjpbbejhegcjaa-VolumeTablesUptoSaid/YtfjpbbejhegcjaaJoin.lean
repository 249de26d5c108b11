/-
  ROWS OF ROWS THAT COME IN, and the document's own Join of them. No conditions.
-/
import Derived.Test.YtfjpbbejhegcjaaBase
import Derived.Deep.Matrix
namespace Go.Proofs.Ytfjpbbejhegcjaa
open Go.RowKit
set_option maxRecDepth 100000
set_option linter.unusedVariables false

/-- a row of rows that came in -/
structure MIn (w : World) (A : Option Addr) (n cap : Nat) (RA : Nat → Option Addr) (RL RC : Nat → Nat) (R : Nat → List F) : Prop where
  le : n ≤ cap
  max : cap ≤ maxLen
  top : 0 < n → ∃ b off, A = some ⟨b, off, none⟩ ∧ b < w.heap.size ∧ ∀ r, r < n → w.cell? ⟨b, off + r, none⟩ = some (.slice (RA r) (RL r) (RC r))
  row : ∀ r, r < n → RowIn w (RA r) (RL r) (RC r) (R r)
namespace MIn
variable {w w' : World} {A : Option Addr} {n cap : Nat} {RA : Nat → Option Addr} {RL RC : Nat → Nat} {R : Nat → List F}
theorem below (h : MIn w A n cap RA RL RC R) (hb : Below w.heap.size w w') : MIn w' A n cap RA RL RC R :=
  ⟨h.le, h.max, fun hn => by
    obtain ⟨b, off, e, hl, hc⟩ := h.top hn
    exact ⟨b, off, e, by have := hb.size; omega, fun r hr => (hb.cell (p := ⟨b, off + r, none⟩) hl).trans (hc r hr)⟩, fun r hr => (h.row r hr).below hb⟩
theorem drewN (h : MIn w A n cap RA RL RC R) (q : Nat) : MIn (w.drewN q) A n cap RA RL RC R := ⟨h.le, h.max, h.top, fun r hr => (h.row r hr).drewN q⟩
theorem at_ (h : MIn w A n cap RA RL RC R) {r : Nat} (hr : r < n) : ∃ b off, A = some ⟨b, off, none⟩ ∧ b < w.heap.size ∧ w.cell? ⟨b, off + r, none⟩ = some (.slice (RA r) (RL r) (RC r)) := by
  obtain ⟨b, off, e, hl, hc⟩ := h.top (by omega)
  exact ⟨b, off, e, hl, hc r hr⟩
theorem nmax (h : MIn w A n cap RA RL RC R) : n ≤ 9223372036854775807 := by have := h.le; have := h.max; unfold maxLen at this; omega
theorem nil (w : World) : MIn w none 0 0 (fun _ => none) (fun _ => 0) (fun _ => 0) (fun _ => []) := ⟨Nat.le_refl _, by unfold maxLen; omega, fun h => by omega, fun r hr => by omega⟩
theorem ofCells {x : Addr} {Z : Nat → List Int} (hl : n ≤ cap) (hm : cap ≤ maxLen)
    (h : ∀ r, r < cap → w.cell? (x.add r) = some (.slice (RA r) (RL r) (RC r)) ∧ RL r ≤ RC r ∧ RC r ≤ maxLen ∧ (Z r).length = RC r ∧ (∀ n ∈ Z r, (Lit.int .u8 n).wf = true) ∧ (RA r = none → RC r = 0) ∧
      ∀ a', RA r = some a' → 0 ≤ a'.block ∧ ∀ c, c < RC r → w.cell? (a'.add c) = some (.int .u8 ((Z r).getD c 0))) : ∃ RA RL RC R, MIn w (some x) n cap RA RL RC R := by
  have key : ∀ r, r < n → ∃ l, RowIn w (RA r) (RL r) (RC r) l := fun r hr => by
    obtain ⟨h1, h2, h3, h4, h5, h6, h7⟩ := h r (by omega)
    cases hA : RA r with
    | none =>
      have e := h6 hA
      have e2 : RL r = 0 := by omega
      rw [e, e2]
      exact ⟨[], RowIn.nil_ w⟩
    | some a' =>
      obtain ⟨_, h8⟩ := h7 a' hA
      exact RowIn.ofCells h2 h3 h4 (fun i hi => h8 i (by omega)) h5
  obtain ⟨R, hR⟩ := Go.Deep.choose_lt key
  refine ⟨RA, RL, RC, R, hl, hm, fun hn => ?_, hR⟩
  obtain ⟨b, off, spot⟩ := x
  have h0 := (h 0 (by omega)).1
  have hspot : spot = none := by simpa [Addr.add] using World.cell?_spot h0
  subst hspot
  refine ⟨b, off, rfl, World.block_lt_of_cell? w _ h0, fun r hr => ?_⟩
  have h1 := (h r (by omega)).1
  have e : (⟨b, off, none⟩ : Addr).add r = ⟨b, off + r, none⟩ := by unfold Addr.add; split <;> simp_all
  rw [e] at h1
  exact h1
end MIn

/-- rows that are laid in a block of their own -/
theorem rows_lit {w : World} {n : Nat} {RA : Nat → Option Addr} {RL RC : Nat → Nat} {R : Nat → List F} (h : ∀ r, r < n → RowIn w (RA r) (RL r) (RC r) (R r)) (C : Array Value) (hC : ∀ r, r < n → C[r]? = some (.slice (RA r) (RL r) (RC r))) (T : TypeId) (hn : n ≤ maxLen) :
    MIn (w.alloc (.cells C T)) (some ⟨w.heap.size, 0, none⟩) n n RA RL RC R :=
  ⟨Nat.le_refl _, hn, fun _ => ⟨_, 0, rfl, by simp, fun r hr => by
    rw [Nat.zero_add, cell_of_row _ _ _ _ _ (0, 0) (heap_alloc_new w _)]
    exact hC r hr⟩, fun r hr => (h r hr).below ((Below.refl _ _).alloc (Nat.le_refl _) _)⟩
/-- of three -/
def th3 {α : Type} (a b c : α) : Nat → α := fun r => if r = 0 then a else if r = 1 then b else c
/-- the first k rows, one behind the other -/
def joinTo (R : Nat → List F) : Nat → List F
  | 0 => []
  | k + 1 => joinTo R k ++ R k
def lenTo (RL : Nat → Nat) : Nat → Nat
  | 0 => 0
  | k + 1 => lenTo RL k + RL k
theorem lenTo_le {RL : Nat → Nat} {n b : Nat} (h : ∀ r, r < n → RL r ≤ b) : ∀ k, k ≤ n → lenTo RL k ≤ k * b
  | 0, _ => by simp [lenTo]
  | k + 1, hk => by
    have h1 := lenTo_le h k (by omega)
    have h2 := h k (by omega)
    show lenTo RL k + RL k ≤ (k + 1) * b
    rw [Nat.add_mul, Nat.one_mul]
    omega
/-- a row, and a byte behind it -/
theorem two_in {w : World} {H : Nat} {ad : Option Addr} {n c : Nat} {l : List F} {x : F} (hrow : RowIn w ad n c l) (hx : w.cell? ⟨H, 0, none⟩ = some (.int .u8 x.n)) (o : Obj) (T : TypeId)
    (ho : o = .cells #[.slice ad n c, .slice (some ⟨H, 0, none⟩) 1 1] T) :
    MIn (w.alloc o) (some ⟨w.heap.size, 0, none⟩) 2 2 (fun r => if r = 0 then ad else some ⟨H, 0, none⟩) (fun r => if r = 0 then n else 1) (fun r => if r = 0 then c else 1) (fun r => if r = 0 then l else [x]) := by
  have hb : Below w.heap.size w (w.alloc o) := (Below.refl _ _).alloc (Nat.le_refl _) _
  refine ⟨Nat.le_refl _, by unfold maxLen; omega, fun _ => ⟨_, 0, rfl, by simp, fun r hr => ?_⟩, fun r hr => ?_⟩
  · subst ho
    rw [Nat.zero_add]
    have h0 : (w.alloc (.cells #[.slice ad n c, .slice (some ⟨H, 0, none⟩) 1 1] T)).heap[w.heap.size]? = some (.cells #[.slice ad n c, .slice (some ⟨H, 0, none⟩) 1 1] T (0, 0)) := heap_alloc_new w _
    rw [cell_of_row _ _ _ _ _ (0, 0) h0]
    rcases (show r = 0 ∨ r = 1 by omega) with rfl | rfl
    · rfl
    · rfl
  · rcases (show r = 0 ∨ r = 1 by omega) with rfl | rfl
    · exact hrow.below hb
    · have hlt := World.block_lt_of_cell? w _ hx
      show RowIn _ (some ⟨H, 0, none⟩) 1 1 [x]
      refine ⟨⟨rfl, by unfold maxLen; decide, fun _ => ⟨H, 0, rfl, by simp; exact Nat.lt_succ_of_lt hlt, fun i hi => ?_⟩⟩, Nat.le_refl _, by unfold maxLen; decide⟩
      obtain rfl : i = 0 := by omega
      rw [Nat.add_zero, hb.cell (p := ⟨H, 0, none⟩) hlt, hx]
      rfl
theorem lenTo_two (n : Nat) : lenTo (fun r => if r = 0 then n else 1) 2 = n + 1 := by simp [lenTo]
theorem joinTo_two (l : List F) (x : F) : joinTo (fun r => if r = 0 then l else [x]) 2 = l ++ [x] := by simp [joinTo]
theorem lenTo_three (a b c : Nat) : lenTo (th3 a b c) 3 = a + b + c := by simp [lenTo, th3]
theorem joinTo_three (a b c : List F) : joinTo (th3 a b c) 3 = a ++ b ++ c := by simp [joinTo, th3]
end Go.Proofs.Ytfjpbbejhegcjaa
