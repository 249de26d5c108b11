/-
  BLOCKS THAT ARE TOLD BY THEIR PLACES, AND WHAT STAYS AS IT WAS BUT BETWEEN TWO BLOCKS. No conditions.
-/
import Derived.Test.YtbphbogolffanaaDoorBase
import Derived.Deep.Matrix
namespace Go.Proofs.YtbphbogolffanaaDoor
open Go.RowKit
set_option maxRecDepth 100000
set_option linter.unusedVariables false

/-- block b's first n cells are f's, and it may be written -/
def RowV (w : World) (b n : Nat) (f : Nat → Value) : Prop := ∃ (cur : Array Value) (t : TypeId), w.heap[b]? = some (.cells cur t (0, 0)) ∧ n ≤ cur.size ∧ ∀ i, i < n → cur[i]? = some (f i)
namespace RowV
variable {w w' : World} {b n : Nat} {f g : Nat → Value}
theorem cell (h : RowV w b n f) {i : Nat} (hi : i < n) : w.cell? ⟨b, i, none⟩ = some (f i) := by
  obtain ⟨c, t, hb, _, hc⟩ := h
  simp [World.cell?, hb, hc i hi]
theorem frozen (h : RowV w b n f) (i : Nat) : w.frozen? ⟨b, i, none⟩ = false := by
  obtain ⟨c, t, hb, _, _⟩ := h
  simp [World.frozen?, hb]
theorem lt (h : RowV w b n f) : b < w.heap.size := by
  obtain ⟨c, t, hb, _, _⟩ := h
  exact (Array.getElem?_eq_some_iff.1 hb).1
theorem congr (h : RowV w b n f) (e : ∀ i, i < n → f i = g i) : RowV w b n g := by
  obtain ⟨c, t, hb, hn, hc⟩ := h
  exact ⟨c, t, hb, hn, fun i hi => by rw [hc i hi, e i hi]⟩
theorem of_block (h : RowV w b n f) (e : w'.heap[b]? = w.heap[b]?) : RowV w' b n f := by
  obtain ⟨c, t, hb, hn, hc⟩ := h
  exact ⟨c, t, e.trans hb, hn, hc⟩
theorem set (h : RowV w b n f) (i : Nat) (v : Value) : RowV (w.setCell ⟨b, i, none⟩ v) b n (fun j => if j = i then v else f j) := by
  obtain ⟨c, t, hb, hn, hc⟩ := h
  refine ⟨c.setIfInBounds i v, t, ?_, by simpa using hn, fun j hj => ?_⟩
  · simp [World.setCell, Array.getElem?_modify, hb]
  · rw [Array.getElem?_setIfInBounds]
    by_cases e : j = i
    · subst e
      rw [if_pos rfl, if_pos (by omega)]
      simp
    · rw [if_neg (fun h => e h.symm)]
      simp only [if_neg e]
      exact hc j hj
theorem setOther (h : RowV w b n f) {a : Addr} (ha : b ≠ a.block) (v : Value) : RowV (w.setCell a v) b n f := h.of_block (Go.Deep.blk_setCell_other _ _ _ _ ha)
theorem below {B : Nat} (h : RowV w b n f) (hb : Below B w w') (hl : b < B) : RowV w' b n f := h.of_block (hb.block b hl)
theorem kept {row : Option Nat} (h : RowV w b n f) (hg : w.grownBy w' row) (hne : row ≠ some b) : RowV w' b n f := h.of_block (hg.block b h.lt (fun e => hne e.symm))
theorem own {base c : Nat} {e : TypeId} {xs : List Value} (h : w.ownsRow base e 1 (.slice (some ⟨b, 0, none⟩) n c) n xs) : RowV w b n (fun i => xs.getD i undef) := by
  rcases h.2 with ⟨hv, _⟩ | ⟨g, cap, cur, hv, _, hg, hnc, _, hsz, ht⟩
  · injection hv with h1; cases h1
  · injection hv with h1 _ _
    injection h1 with h1
    injection h1 with h1 _ _
    subst h1
    have hl := h.1
    refine ⟨cur, e, hg, by omega, fun i hi => ?_⟩
    have h2 : xs[i]? = cur[i]? := by
      rw [← ht, List.getElem?_take, if_pos (by omega)]
      simp
    rw [← h2, List.getElem?_eq_getElem (by omega)]
    simp [show i < xs.length by omega]
theorem ofBlk {t : TypeId} {C : Array Value} (h : Blk w b t C) : RowV w b C.size (fun i => C.getD i undef) :=
  ⟨C, t, h, Nat.le_refl _, fun i hi => by simp [hi]⟩
end RowV
/-- nothing that was there is another, but between lo and hi -/
structure Out (lo hi : Nat) (w w' : World) : Prop where
  os : w'.os = w.os
  tape : w'.tape = w.tape
  output : w'.output = w.output
  size : w.heap.size ≤ w'.heap.size
  block : ∀ k, k < w.heap.size → (k < lo ∨ hi ≤ k) → w'.heap[k]? = w.heap[k]?
namespace Out
variable {lo hi : Nat} {w w' w'' : World}
theorem refl (lo hi : Nat) (w : World) : Out lo hi w w := ⟨rfl, rfl, rfl, Nat.le_refl _, fun _ _ _ => rfl⟩
theorem trans (h : Out lo hi w w') (k : Out lo hi w' w'') : Out lo hi w w'' :=
  ⟨k.os.trans h.os, k.tape.trans h.tape, k.output.trans h.output, Nat.le_trans h.size k.size, fun i hi' ho => (k.block i (Nat.lt_of_lt_of_le hi' h.size) ho).trans (h.block i hi' ho)⟩
theorem ofBelow (h : Below w.heap.size w w') : Out lo hi w w' := ⟨h.os, h.tape, h.output, h.size, fun k hk _ => h.block k hk⟩
theorem ofGrown {b : Nat} (h : w.grownBy w' (some b)) (hb : lo ≤ b ∧ b < hi) : Out lo hi w w' := ⟨h.os, h.tape, h.output, h.size, fun k hk ho => h.block k hk (fun e => by injection e with e; omega)⟩
theorem below (h : Out lo hi w w') (hl : lo ≤ w.heap.size) : Below lo w w' := ⟨h.os, h.tape, h.output, h.size, fun k hk => h.block k (by omega) (.inl hk)⟩
theorem rowV {b n : Nat} {f : Nat → Value} (h : Out lo hi w w') (hr : RowV w b n f) (ho : b < lo ∨ hi ≤ b) : RowV w' b n f := hr.of_block (h.block b hr.lt ho)
theorem own {base n : Nat} {e : TypeId} {v : Value} {xs : List Value} (h : Out lo hi w w') (ho : w.ownsRow base e 1 v n xs) (hb : hi ≤ base) : w'.ownsRow base e 1 v n xs := by
  refine ⟨ho.1, ?_⟩
  rcases ho.2 with hn | ⟨g, cap, cur, rfl, hbg, hg, rest⟩
  · exact .inl hn
  · exact .inr ⟨g, cap, cur, rfl, hbg, (h.block g (Array.getElem?_eq_some_iff.1 hg).1 (.inr (by omega))).trans hg, rest⟩
end Out
end Go.Proofs.YtbphbogolffanaaDoor
