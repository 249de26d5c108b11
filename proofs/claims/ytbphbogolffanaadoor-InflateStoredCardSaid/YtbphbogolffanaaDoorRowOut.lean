/-
  ROWS, AND ONE BLOCK THAT IS WRITTEN: what stays; a slice of a row. No conditions.
-/
import Derived.Test.YtbphbogolffanaaDoorOut
namespace Go.Proofs.YtbphbogolffanaaDoor
open Go.RowKit
set_option maxRecDepth 100000
set_option linter.unusedVariables false

theorem Out.drewN (lo hi : Nat) (w : World) (q : Nat) : Out lo hi w (w.drewN q) := ⟨rfl, rfl, rfl, Nat.le_refl _, fun _ _ _ => rfl⟩
theorem Out.setCell {p : Nat} {w w' : World} (h : Out p (p + 1) w w') (i : Nat) (v : Value) : Out p (p + 1) w (w'.setCell ⟨p, i, none⟩ v) :=
  h.trans ⟨rfl, rfl, rfl, by simp [World.setCell], fun k _ ho => Below.heap_setCell _ _ _ _ (fun e => by simp at e; omega)⟩
theorem Row.setOther {w : World} {A : Option Addr} {n : Nat} {l : List F} (h : Row w A n l) {a : Addr} (hne : ∀ b o, A = some ⟨b, o, none⟩ → b ≠ a.block) (v : Value) : Row (w.setCell a v) A n l := by
  refine ⟨h.1, h.2.1, fun hn => ?_⟩
  obtain ⟨b, o, e, hl, hc⟩ := h.2.2 hn
  refine ⟨b, o, e, by simpa [World.setCell] using hl, fun i hi => ?_⟩
  rw [World.cell?_of_block (a := ⟨b, o + i, none⟩) (Go.Deep.blk_setCell_other w a v b (hne b o e))]
  exact hc i hi
/-- a part of a row, as a slice of it reads -/
theorem RowIn.slice {w : World} {A : Option Addr} {len cap a M : Nat} {l : List F} (h : RowIn w A len cap l) (h1 : a ≤ M) (h2 : M ≤ len) :
    (cap = a → RowIn w A (M - a) 0 ((l.drop a).take (M - a))) ∧ (¬ cap = a → RowIn w (A.map fun x => x.add a) (M - a) (cap - a) ((l.drop a).take (M - a))) := by
  have hl := h.row.len
  have hc := h.le
  have hm := h.max
  constructor
  · intro e
    have e0 : M - a = 0 := by omega
    rw [e0, List.take_zero]
    exact ⟨Row.nil w A, by omega, by omega⟩
  · intro e
    refine ⟨⟨by simp; omega, by omega, fun hn => ?_⟩, by omega, by omega⟩
    obtain ⟨b, o, rfl, hb, hcell⟩ := h.row.2.2 (by omega)
    refine ⟨b, o + a, by simp [Addr.add], hb, fun i hi => ?_⟩
    have := hcell (a + i) (by omega)
    rw [show o + a + i = o + (a + i) by omega, this, gt_take, if_pos hi, gt_drop]
theorem Row.outOf {w w' : World} {q : Nat} {A : Option Addr} {n : Nat} {l : List F} (h : Row w A n l) (ho : Out q (q + 1) w w') (hA : ∀ b o, A = some ⟨b, o, none⟩ → b ≠ q) : Row w' A n l := by
  refine ⟨h.1, h.2.1, fun hn => ?_⟩
  obtain ⟨b, o, e, hl, hc⟩ := h.2.2 hn
  refine ⟨b, o, e, Nat.lt_of_lt_of_le hl ho.size, fun i hi => ?_⟩
  rw [World.cell?_of_block (a := ⟨b, o + i, none⟩) (ho.block b hl (by have := hA b o e; omega))]
  exact hc i hi
theorem RowIn.outOf {w w' : World} {q : Nat} {A : Option Addr} {n c : Nat} {l : List F} (h : RowIn w A n c l) (ho : Out q (q + 1) w w') (hA : ∀ b o, A = some ⟨b, o, none⟩ → b ≠ q) : RowIn w' A n c l := ⟨h.row.outOf ho hA, h.le, h.max⟩
theorem own_ne {w : World} {base n c p : Nat} {e : TypeId} {A : Option Addr} {xs : List Value} (h : w.ownsRow base e 1 (.slice A n c) n xs) (hp : p < base) : ∀ b o, A = some ⟨b, o, none⟩ → b ≠ p := fun b o e => by
  rcases h.2 with ⟨hv, _⟩ | ⟨g, cap, cur, hv, hg, _⟩
  · injection hv with hv; rw [hv] at e; cases e
  · injection hv with hv; rw [hv] at e; injection e with e; injection e with e; omega
theorem Out.lowAt {p : Nat} {w w' : World} {B : Nat} (h : Out p (p + 1) w w') (hB : B ≤ p) (hp : p < w.heap.size) : Below B w w' := (h.below (by omega)).mono hB
theorem Out.ofB {lo hi : Nat} {w w' w'' : World} (h : Out lo hi w w') (hb : Below w'.heap.size w' w'') : Out lo hi w w'' := h.trans (Out.ofBelow hb)
theorem own_base2 {w : World} {base base' n : Nat} {e : TypeId} {v : Value} {xs : List Value} (h : w.ownsRow base e 1 v n xs) (hb : base' ≤ base) : w.ownsRow base' e 1 v n xs := by
  refine ⟨h.1, ?_⟩
  rcases h.2 with hn | ⟨g, cap, cur, rfl, hbg, rest⟩
  · exact .inl hn
  · exact .inr ⟨g, cap, cur, rfl, by omega, rest⟩
end Go.Proofs.YtbphbogolffanaaDoor
