/-
  STRIPES: a row of rows that a call builds by append. No conditions.
-/
import Derived.Test.YtbmkcnlcffnjgaaSrf
import Derived.Test.YtbmkcnlcffnjgaaMat
import Derived.Test.YtbmkcnlcffnjgaaRef6
namespace Go.Proofs.Ytbmkcnlcffnjgaa
open Go.RowKit
set_option maxRecDepth 100000
set_option linter.unusedVariables false

def slf (RA : Nat → Option Addr) (RL RC : Nat → Nat) : Nat → Value := fun r => .slice (RA r) (RL r) (RC r)
theorem vs_append {f h : Nat → Value} (n m : Nat) : vs f n ++ vs h m = vs (fun r => if r < n then f r else h (r - n)) (n + m) := by
  refine List.ext_getElem? fun j => ?_
  by_cases hj : j < n
  · rw [List.getElem?_append_left (by rw [vs_length]; exact hj), vs_at _ hj, vs_at _ (by omega), if_pos hj]
  · rw [List.getElem?_append_right (by rw [vs_length]; omega), vs_length]
    by_cases h2 : j < n + m
    · rw [vs_at _ (by omega), vs_at _ h2, if_neg hj]
    · rw [List.getElem?_eq_none (by rw [vs_length]; omega), List.getElem?_eq_none (by rw [vs_length]; omega)]
theorem Row.kept23 {w w' : World} {A : Option Addr} {n : Nat} {l : List F} (h : Row w A n l) {row : Option Nat} (hg : w.grownBy w' row) (hne : 0 < n → ∀ z, A = some z → row ≠ some z.block) : Row w' A n l := by
  by_cases h0 : 0 < n
  · exact h.kept hg (hne h0)
  · exact ⟨h.1, h.2.1, fun hn => absurd hn h0⟩
theorem own_caps23 {w : World} {base n c g : Nat} {e : TypeId} {xs : List Value} (h : w.ownsRow base e 1 (.slice (some ⟨g, 0, none⟩) n c) n xs) : n ≤ c ∧ c ≤ maxLen := own_caps4 h
structure Rws (w : World) (base g n c : Nat) (RA : Nat → Option Addr) (RL RC : Nat → Nat) (R : Nat → List F) : Prop where
  own : w.ownsRow base 22 1 (.slice (some ⟨g, 0, none⟩) n c) n (vs (slf RA RL RC) n)
  rows : ∀ r, r < n → RowIn w (RA r) (RL r) (RC r) (R r)
  far : ∀ r, r < n → 0 < RL r → ∀ x, RA r = some x → x.block ≠ g
namespace Rws
variable {w w' : World} {base g n c : Nat} {RA : Nat → Option Addr} {RL RC : Nat → Nat} {R : Nat → List F}
theorem min (h : Rws w base g n c RA RL RC R) : MIn w (some ⟨g, 0, none⟩) n c RA RL RC R :=
  ⟨(own_caps23 h.own).1, (own_caps23 h.own).2, fun _ => ⟨g, 0, rfl, (h.own.lt g rfl).2, fun r hr => by
    rw [Nat.zero_add, h.own.cellAt r (by omega), vs_at _ hr]
    rfl⟩, h.rows⟩
theorem below (h : Rws w base g n c RA RL RC R) (hb : Below w.heap.size w w') : Rws w' base g n c RA RL RC R :=
  ⟨(Out.ofBelow (lo := 0) (hi := 0) hb).own h.own (Nat.zero_le _), fun r hr => (h.rows r hr).below hb, h.far⟩
theorem none_ (w : World) : ∀ {base : Nat}, base ≤ w.heap.size → Rws (w.alloc (.cells #[] 22)) base w.heap.size 0 0 RA RL RC R := fun {base} hb =>
  ⟨World.ownsRow_made (e := 22) (size := 1) w #[] 0 hb (Nat.zero_le _) rfl, fun r hr => by omega, fun r hr => by omega⟩
theorem push (h : Rws w base g n c RA RL RC R) {m : Nat} {A' : Nat → Option Addr} {L' C' : Nat → Nat} {R' : Nat → List F} (hl : ∀ r, r < m → RowIn w (A' r) (L' r) (C' r) (R' r)) (hA : ∀ r, r < m → 0 < L' r → ∀ x, A' r = some x → x.block ≠ g)
    {w1 w5 : World} {g5 c5 : Nat} (h1 : Below w.heap.size w w1) (hown : w5.ownsRow base 22 1 (.slice (some ⟨g5, 0, none⟩) (n + m) c5) (n + m) (vs (slf RA RL RC) n ++ vs (slf A' L' C') m)) (hg : w1.grownBy w5 (some g)) (hd : g5 = g ∨ g5 = w1.heap.size) :
    Rws w5 base g5 (n + m) c5 (fun r => if r < n then RA r else A' (r - n)) (fun r => if r < n then RL r else L' (r - n)) (fun r => if r < n then RC r else C' (r - n)) (fun r => if r < n then R r else R' (r - n)) := by
  have key : ∀ {A : Option Addr} {L C : Nat} {l : List F}, RowIn w A L C l → (0 < L → ∀ x, A = some x → x.block ≠ g) → RowIn w5 A L C l ∧ (0 < L → ∀ x, A = some x → x.block ≠ g5) := fun {A L C l} h2 h3 =>
    ⟨⟨(h2.row.below h1).kept23 hg (fun h4 z e e2 => h3 h4 z e (by injection e2 with e2; exact e2.symm)), h2.le, h2.max⟩, fun h4 x e => by
      rcases hd with rfl | rfl
      · exact h3 h4 x e
      · obtain ⟨b, o, e2, hb, _⟩ := h2.row.2.2 h4
        rw [e2] at e
        injection e with e
        subst e
        have := h1.size
        show b ≠ _
        omega⟩
  refine ⟨?_, fun r hr => ?_, fun r hr => ?_⟩
  · rw [vs_append] at hown
    refine cast (congrArg _ (vs_congr fun r hr => ?_)) hown
    by_cases e : r < n
    · simp only [slf, if_pos e]
    · simp only [slf, if_neg e]
  · by_cases e : r < n
    · simp only [if_pos e]
      exact (key (h.rows r e) (h.far r e)).1
    · simp only [if_neg e]
      exact (key (hl (r - n) (by omega)) (hA (r - n) (by omega))).1
  · by_cases e : r < n
    · simp only [if_pos e]
      exact (key (h.rows r e) (h.far r e)).2
    · simp only [if_neg e]
      exact (key (hl (r - n) (by omega)) (hA (r - n) (by omega))).2
theorem congr (h : Rws w base g n c RA RL RC R) {RL' : Nat → Nat} {R' : Nat → List F} (eL : ∀ r, r < n → RL r = RL' r) (eR : ∀ r, r < n → R r = R' r) : Rws w base g n c RA RL' RC R' :=
  ⟨cast (congrArg _ (vs_congr fun r hr => by unfold slf; rw [eL r hr])) h.own, fun r hr => by rw [← eL r hr, ← eR r hr]; exact h.rows r hr, fun r hr h0 => h.far r hr (by rw [eL r hr]; exact h0)⟩
end Rws
theorem vs_one1 (f : Nat → Value) : vs f 1 = [f 0] := rfl
theorem info_bytes3 : (Try.prog.info? 22).map (fun i => (i.zero, i.size, i.bytes)) = some (some (.slice none 0 0), 1, 24) := by kernel_rfl
end Go.Proofs.Ytbmkcnlcffnjgaa
