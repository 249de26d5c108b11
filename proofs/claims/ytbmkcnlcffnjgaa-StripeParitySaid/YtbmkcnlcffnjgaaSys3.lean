/-
  THE CONTRACT OF systematic.firstThere. Words of at most 255 bytes.
-/
import Derived.Test.YtbmkcnlcffnjgaaSys2
import Derived.Deep.RegionHeld3
import Derived.Deep.AppendLies
import Derived.WalkKit
import Derived.OpenShut
namespace Go.Proofs.Ytbmkcnlcffnjgaa
open Go.RowKit
set_option maxRecDepth 100000
set_option linter.unusedVariables false

/-- the bool at a place, false behind the end -/
def gb (l : List Bool) (i : Nat) : Bool := l.getD i false
/-- a row of bools reads as l -/
def BRow (w : World) (A : Option Addr) (n : Nat) (l : List Bool) : Prop :=
  l.length = n ∧ n ≤ maxLen ∧ (0 < n → ∃ b off, A = some ⟨b, off, none⟩ ∧ b < w.heap.size ∧ ∀ i, i < n → w.cell? ⟨b, off + i, none⟩ = some (.bool (gb l i)))
section
variable {w w' : World} {A : Option Addr} {n : Nat} {l : List Bool}
theorem BRow.len (h : BRow w A n l) : l.length = n := h.1
theorem BRow.max (h : BRow w A n l) : n ≤ 9223372036854775807 := by have := h.2.1; unfold maxLen at this; exact this
theorem BRow.at_ (h : BRow w A n l) {k : Nat} (hk : k < n) : ∃ b off, A = some ⟨b, off, none⟩ ∧ b < w.heap.size ∧ w.cell? ⟨b, off + k, none⟩ = some (.bool (gb l k)) := by
  obtain ⟨b, off, e, hb, hc⟩ := h.2.2 (by omega)
  exact ⟨b, off, e, hb, hc k hk⟩
theorem BRow.keep (h : BRow w A n l) (hs : w.heap.size ≤ w'.heap.size) (hk : ∀ p : Addr, p.block < w.heap.size → w'.cell? p = w.cell? p) : BRow w' A n l :=
  ⟨h.1, h.2.1, fun hn => by
    obtain ⟨b, off, e, hb, hc⟩ := h.2.2 hn
    exact ⟨b, off, e, by omega, fun i hi => (hk ⟨b, off + i, none⟩ hb).trans (hc i hi)⟩⟩
theorem BRow.below (h : BRow w A n l) (hb : Below w.heap.size w w') : BRow w' A n l := h.keep hb.size fun _ hp => hb.cell hp
theorem BRow.alloc (h : BRow w A n l) (o : Obj) : BRow (w.alloc o) A n l := h.keep (by simp) fun p hp => World.cell?_alloc_lt w o p hp
theorem BRow.drewN (h : BRow w A n l) (k : Nat) : BRow (w.drewN k) A n l := h
end
theorem BRow.ofCells {w : World} {x : Addr} {len cap : Nat} {B : Nat → Bool} (hl : len ≤ cap) (hm : cap ≤ maxLen) (hcell : ∀ i, i < cap → w.cell? (x.add i) = some (.bool (B i))) : ∃ l, BRow w (some x) len l := by
  refine ⟨(List.range len).map B, by simp, by omega, fun hn => ?_⟩
  obtain ⟨b, off, spot⟩ := x
  have h0 := hcell 0 (by omega)
  have hspot : spot = none := by simpa [Addr.add] using World.cell?_spot h0
  subst hspot
  refine ⟨b, off, rfl, World.block_lt_of_cell? w _ h0, fun i hi => ?_⟩
  have h1 := hcell i (by omega)
  have e : (⟨b, off, none⟩ : Addr).add i = ⟨b, off + i, none⟩ := by unfold Addr.add; split <;> simp_all
  rw [e] at h1
  rw [h1]
  simp [gb, hi]
theorem BRow.nil (w : World) (A : Option Addr) : BRow w A 0 [] := ⟨rfl, by unfold maxLen; omega, fun h => absurd h (by omega)⟩
/-- of the first k places the first n that are there -/
def fth (th : List Bool) (n : Nat) : Nat → List Nat
  | 0 => []
  | k + 1 => if gb th k = true ∧ (fth th n k).length < n then fth th n k ++ [k] else fth th n k
theorem fth_le (th : List Bool) (n k : Nat) : (fth th n k).length ≤ n := by
  induction k with
  | zero => exact Nat.zero_le _
  | succ k ih =>
    unfold fth
    split
    · rw [List.length_append]; simp; omega
    · exact ih
theorem fth_le_k (th : List Bool) (n k : Nat) : (fth th n k).length ≤ k := by
  induction k with
  | zero => exact Nat.zero_le _
  | succ k ih =>
    unfold fth
    split
    · rw [List.length_append]; simp; omega
    · omega
theorem fth_lt (th : List Bool) (n k : Nat) : ∀ i ∈ fth th n k, i < k := by
  induction k with
  | zero => intro i hi; cases hi
  | succ k ih =>
    intro i hi
    unfold fth at hi
    split at hi
    · rw [List.mem_append, List.mem_singleton] at hi
      rcases hi with hi | hi
      · have := ih i hi; omega
      · omega
    · have := ih i hi; omega
theorem fth_nodup (th : List Bool) (n k : Nat) : (fth th n k).Nodup := by
  induction k with
  | zero => exact List.nodup_nil
  | succ k ih =>
    unfold fth
    split
    · rw [List.nodup_append]
      refine ⟨ih, by simp, fun a ha b hb => ?_⟩
      rw [List.mem_singleton] at hb
      have := fth_lt th n k a ha
      omega
    · exact ih
theorem fth_there (th : List Bool) (n k : Nat) : ∀ i ∈ fth th n k, gb th i = true := by
  induction k with
  | zero => intro i hi; cases hi
  | succ k ih =>
    intro i hi
    unfold fth at hi
    split at hi
    · rename_i h
      rw [List.mem_append, List.mem_singleton] at hi
      rcases hi with hi | hi
      · exact ih i hi
      · rw [hi]; exact h.1
    · exact ih i hi
/-- the places, and the bytes at them -/
def thX (th : List Bool) (n k : Nat) : List F := (fth th n k).map plI
def thY (l : List F) (th : List Bool) (n k : Nat) : List F := (fth th n k).map (gt l)
theorem thX_length (th : List Bool) (n k : Nat) : (thX th n k).length = (fth th n k).length := by simp [thX]
theorem thY_length (l : List F) (th : List Bool) (n k : Nat) : (thY l th n k).length = (fth th n k).length := by simp [thY]
theorem thX_yes {th : List Bool} {n k : Nat} (h1 : gb th k = true) (h2 : (fth th n k).length < n) : thX th n (k + 1) = thX th n k ++ [plI k] := by
  unfold thX
  rw [show fth th n (k + 1) = fth th n k ++ [k] from if_pos ⟨h1, h2⟩, List.map_append]
  rfl
theorem thY_yes {l : List F} {th : List Bool} {n k : Nat} (h1 : gb th k = true) (h2 : (fth th n k).length < n) : thY l th n (k + 1) = thY l th n k ++ [gt l k] := by
  unfold thY
  rw [show fth th n (k + 1) = fth th n k ++ [k] from if_pos ⟨h1, h2⟩, List.map_append]
  rfl
theorem fth_no {th : List Bool} {n k : Nat} (h : gb th k = false ∨ n ≤ (fth th n k).length) : fth th n (k + 1) = fth th n k := if_neg (fun e => by
  rcases h with h | h
  · rw [h] at e; cases e.1
  · omega)
theorem thX_nodup (th : List Bool) (n k : Nat) (hk : k ≤ 256) : (thX th n k).Nodup := by
  unfold thX
  refine List.Pairwise.map plI ?_ (List.Pairwise.imp_of_mem (R := (· ≠ ·)) (S := fun a b => a ≠ b ∧ a < k ∧ b < k) ?_ (fth_nodup th n k))
  · rintro a b ⟨h1, h2, h3⟩ e
    have := congrArg F.n e
    rw [plI_lt (by omega), plI_lt (by omega)] at this
    exact h1 this
  · intro a b ha hb hne
    exact ⟨hne, fth_lt th n k a ha, fth_lt th n k b hb⟩
end Go.Proofs.Ytbmkcnlcffnjgaa
