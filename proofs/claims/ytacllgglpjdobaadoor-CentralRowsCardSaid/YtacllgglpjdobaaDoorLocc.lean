/-
  LOCAL HEADERS: the closure that lays numbers behind the bytes in a box. No conditions.
-/
import Derived.Test.YtacllgglpjdobaaDoorLocb
namespace Go.Proofs.YtacllgglpjdobaaDoor
open Go.RowKit
set_option maxRecDepth 100000
set_option linter.unusedVariables false

def gp (P : List (Nat × Nat)) (i : Nat) : Nat × Nat := P.getD i (0, 0)
/-- a row of numbers, each with how many bytes it takes -/
structure PRow (w : World) (A : Option Addr) (n : Nat) (P : List (Nat × Nat)) : Prop where
  len : P.length = n
  cells : ∀ i, i < n → ∃ b off, A = some ⟨b, off, none⟩ ∧ b < w.heap.size ∧ w.cell? ⟨b, off + i * 2, none⟩ = some (.int .u64 ((gp P i).1 : Nat)) ∧ w.cell? ⟨b, off + i * 2 + 1, none⟩ = some (.int .i64 ((gp P i).2 : Nat))
theorem PRow.wout {w w' : World} {C : Option Addr} {n p : Nat} {P : List (Nat × Nat)} {a b : Option Nat} (h : PRow w C n P) (ho : WOut p a b w w') (hA : ∀ b o, C = some ⟨b, o, none⟩ → b ≠ p ∧ a ≠ some b) : PRow w' C n P :=
  ⟨h.len, fun i hi => by
    obtain ⟨b, off, e, hl, c0, c1⟩ := h.cells i hi
    obtain ⟨h1, h2⟩ := hA b off e
    have hk := ho.block b hl h1 h2
    exact ⟨b, off, e, by have := ho.size; omega, (World.cell?_of_block (a := ⟨b, off + i * 2, none⟩) hk).trans c0, (World.cell?_of_block (a := ⟨b, off + i * 2 + 1, none⟩) hk).trans c1⟩⟩
theorem WOut.ofBelowL {p : Nat} {a : Option Nat} {w w' : World} (h : Below w.heap.size w w') : WOut p a a w w' := ⟨h.os, h.tape, h.output, h.size, fun k hk _ _ => h.block k hk, .inl rfl⟩
/-- bytes in a box -/
structure BxO (w : World) (q base : Nat) (V : Option Addr) (N c : Nat) (Y : List F) : Prop where
  blk : Blk w q 31 #[.slice V N c]
  own : w.ownsRow base 5 1 (.slice V N c) N (cs Y)
  ne : ∀ g, (Value.slice V N c).ownBlock = some g → g ≠ q
  lo : base ≤ q
theorem BxO.lt {w : World} {q base : Nat} {V : Option Addr} {N c : Nat} {Y : List F} (h : BxO w q base V N c Y) : q < w.heap.size := h.blk.lt
theorem BxO.below {w w' : World} {q base : Nat} {V : Option Addr} {N c : Nat} {Y : List F} (h : BxO w q base V N c Y) (hb : Below w.heap.size w w') : BxO w' q base V N c Y := ⟨h.blk.below h.lt hb, own_below h.own hb, h.ne, h.lo⟩
theorem own_woutL {p base n c : Nat} {e : TypeId} {a b : Option Nat} {A : Option Addr} {xs : List Value} {w w' : World} (h : WOut p a b w w') (ho : w.ownsRow base e 1 (.slice A n c) n xs) (hne : ∀ g, (Value.slice A n c).ownBlock = some g → g ≠ p ∧ a ≠ some g) : w'.ownsRow base e 1 (.slice A n c) n xs := by
  refine ⟨ho.1, ?_⟩
  rcases ho.2 with hn | ⟨g, cap, cur, hv, hbg, hg, rest⟩
  · exact .inl hn
  · have h1 := hne g (by rw [hv]; rfl)
    exact .inr ⟨g, cap, cur, hv, hbg, (h.block g (Array.getElem?_eq_some_iff.1 hg).1 h1.1 h1.2).trans hg, rest⟩
/-- more bytes, and the box holds them -/
theorem BxO.more {w w3 w4 : World} {q base : Nat} {V V4 : Option Addr} {N N4 c c4 : Nat} {Y Y4 : List F} (h : BxO w q base V N c Y) (h3 : Below w.heap.size w w3)
    (hown : w4.ownsRow base 5 1 (.slice V4 N4 c4) N4 (cs Y4)) (hg : w3.grownBy w4 (Value.slice V N c).ownBlock) (hnw : (Value.slice V4 N4 c4).ownBlock = (Value.slice V N c).ownBlock ∨ ∀ g, (Value.slice V4 N4 c4).ownBlock = some g → w3.heap.size ≤ g) :
    BxO (w4.setCell ⟨q, 0, none⟩ (.slice V4 N4 c4)) q base V4 N4 c4 Y4 ∧ WOut q (Value.slice V N c).ownBlock (Value.slice V4 N4 c4).ownBlock w (w4.setCell ⟨q, 0, none⟩ (.slice V4 N4 c4)) := by
  have hq := h.lt
  have hs := h3.size
  have hne4 : ∀ g, (Value.slice V4 N4 c4).ownBlock = some g → g ≠ q := fun g hg4 => by
    rcases hnw with e | e
    · rw [e] at hg4
      exact h.ne g hg4
    · have := e g hg4
      omega
  have hb4 : Blk w4 q 31 #[.slice V N c] := (h.blk.below hq h3).kept hg ⟨by omega, fun e => h.ne q e rfl⟩
  have ho : WOut q (Value.slice V N c).ownBlock (Value.slice V4 N4 c4).ownBlock w w4 :=
    ⟨hg.os.trans h3.os, hg.tape.trans h3.tape, hg.output.trans h3.output, Nat.le_trans hs hg.size, fun k hk hp ha => (hg.block k (by omega) (fun e => ha e.symm)).trans (h3.block k hk), by
      rcases hnw with e | e
      · exact .inl e
      · exact .inr fun g hg4 => by have := e g hg4; omega⟩
  refine ⟨⟨hb4.set_ 0 _, ?_, hne4, h.lo⟩, ho.setP 0 _⟩
  exact own_woutL (a := none) (b := none) ((WOut.refl q none w4).setP 0 _) hown fun g hg4 => ⟨hne4 g hg4, fun e => by cases e⟩
end Go.Proofs.YtacllgglpjdobaaDoor
