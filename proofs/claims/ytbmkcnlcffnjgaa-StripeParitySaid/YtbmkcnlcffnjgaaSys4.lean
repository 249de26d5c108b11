/-
  THE CONTRACT OF systematic.firstThere. Words of at most 255 bytes.
-/
import Derived.Test.YtbmkcnlcffnjgaaSys3
namespace Go.Proofs.Ytbmkcnlcffnjgaa
open Go.RowKit
set_option maxRecDepth 100000
set_option linter.unusedVariables false

theorem Blk.alloc {w : World} {g : Nat} {t : TypeId} {C : Array Value} (h : Blk w g t C) (o : Obj) : Blk (w.alloc o) g t C := by
  unfold Blk at h ⊢
  rw [heap_alloc_old w o (h := (Array.getElem?_eq_some_iff.1 h).1)]
  exact h
theorem Blk.new1 (w : World) (o : Obj) (t : TypeId) (C : Array Value) : Blk ((w.alloc o).alloc (.cells C t)) (w.heap.size + 1) t C := by
  have h := Blk.new (w.alloc o) t C
  rw [show (w.alloc o).heap.size = w.heap.size + 1 by simp] at h
  exact h
theorem Blk.news {w : World} {g : Nat} {t : TypeId} {u : Value} (h : Blk w g t #[u]) : ∀ j v, [u][j]? = some v → w.cell? ((⟨g, 0, none⟩ : Addr).add j) = some v :=
  World.news_of_block (cs := #[u]) (fr := (0, 0)) h
theorem u8_wrap {k : Nat} (h : k < 256) : IntKind.u8.wrap (k : Int) = k := by
  simp [IntKind.wrap, IntKind.bits, IntKind.signed]
  omega
/-- behind the two appends: neither row is in the other's block -/
theorem two_apart {X Y : Value} {gA HA sz : Nat} (hX : X.ownBlock = none ∨ X.ownBlock ≠ Y.ownBlock) (hY : ∀ g, Y.ownBlock = some g → g < sz) (hA : X.ownBlock = some gA ∨ gA = HA) (hHA : sz ≤ HA) : some gA ≠ Y.ownBlock := by
  intro e
  rcases hA with h | h
  · rcases hX with h2 | h2
    · rw [h2] at h; cases h
    · exact h2 (h.trans e)
  · have := hY gA e.symm
    omega
theorem two_apart2 {Y : Value} {gA gB HB szA : Nat} (h : some gA ≠ Y.ownBlock) (hA : gA < szA) (hB : Y.ownBlock = some gB ∨ gB = HB) (hHB : szA ≤ HB) : gA ≠ gB := by
  intro e
  subst e
  rcases hB with h2 | h2
  · exact h h2.symm
  · omega
end Go.Proofs.Ytbmkcnlcffnjgaa
