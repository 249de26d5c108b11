/-
  THE CONTRACT OF LAW 08's OWN EXAMPLES (alive), and LAW 08's WALK: BitsBytes. No conditions.
-/
import Derived.Test.YtanhgjaokgnlhaaBitB
import Derived.Test.YtanhgjaokgnlhaaBitC
namespace Go.Proofs.Ytanhgjaokgnlhaa
open Go.RowKit
set_option maxRecDepth 100000
set_option linter.unusedVariables false

theorem Wr.zero (w : World) (C : Array Value) (hC : C = #[.slice none 0 0, .int .i64 0]) : Wr (w.alloc (.cells C 48)) w.heap.size none 0 0 0 [] := by
  subst hC
  exact ⟨Blk.new w _ _, ⟨rfl, .inl ⟨rfl, rfl⟩⟩, rfl, rfl, by omega⟩
/-- what a call owns stays, where it is neither the writer nor its bytes -/
theorem own_wout {p base n c : Nat} {e : TypeId} {a b : Option Nat} {A : Option Addr} {xs : List Value} {w w' : World} (h : WOut p a b w w') (ho : w.ownsRow base e 1 (.slice A n c) n xs) (hp : p < base) (ha : ∀ g, a = some g → g < base) : w'.ownsRow base e 1 (.slice A n c) n xs := by
  refine ⟨ho.1, ?_⟩
  rcases ho.2 with hn | ⟨g, cap, cur, hv, hbg, hg, rest⟩
  · exact .inl hn
  · exact .inr ⟨g, cap, cur, hv, hbg, (h.block g (Array.getElem?_eq_some_iff.1 hg).1 (by omega) (fun e => by have := ha g e; omega)).trans hg, rest⟩
theorem Wr.alt {w : World} {p : Nat} {A : Option Addr} {len cap n : Nat} {X : List Bool} (h : Wr w p A len cap n X) : ∀ g, (Value.slice A len cap).ownBlock = some g → g < w.heap.size := fun g e => (h.own.lt g e).2
theorem Wr.alo {w : World} {p : Nat} {A : Option Addr} {len cap n : Nat} {X : List Bool} (h : Wr w p A len cap n X) : ∀ g, (Value.slice A len cap).ownBlock = some g → p < g := fun g e => by have := (h.own.lt g e).1; omega
theorem WOut.low {p : Nat} {a b : Option Nat} {w w' : World} {B : Nat} (h : WOut p a b w w') (hB : B ≤ p) (hp : p < w.heap.size) (ha : ∀ g, a = some g → p < g) : Below B w w' := h.below hB (by omega) (fun g e => by have := ha g e; omega)
theorem u32_eq (a b : Nat) : ((a : Int) == (b : Int)) = decide (a = b) := by
  rw [Bool.eq_iff_iff, beq_iff_eq, decide_eq_true_iff]
  omega
theorem Wr.outOf {w w' : World} {p q : Nat} {A : Option Addr} {len cap n : Nat} {X : List Bool} (h : Wr w p A len cap n X) (ho : Out q (q + 1) w w') (hp : p ≠ q) (ha : ∀ g, (Value.slice A len cap).ownBlock = some g → g ≠ q) : Wr w' p A len cap n X := by
  refine ⟨?_, ?_, h.hl, h.hn, h.few⟩
  · have := h.blk
    unfold Blk at this ⊢
    rw [ho.block p h.lt (by omega)]
    exact this
  · refine ⟨h.own.1, ?_⟩
    rcases h.own.2 with hn | ⟨g, cap', cur, hv, hbg, hg, rest⟩
    · exact .inl hn
    · exact .inr ⟨g, cap', cur, hv, hbg, (ho.block g (Array.getElem?_eq_some_iff.1 hg).1 (by
        have := ha g (by rw [hv]; rfl)
        omega)).trans hg, rest⟩
section
variable {w : World} {p : Nat} {A : Option Addr} {len cap n : Nat} {X : List Bool}
theorem ex8_code (h : Wr w p A len cap 3 [true, false, true]) : Calls Try.prog 18 #[.pointer (some ⟨p, 0, none⟩), .int .u32 1, .int .i64 3] w fun e w' => e = .returned (.tuple #[]) ∧ ∃ A' len' cap', Wr w' p A' len' cap' 6 [true, false, true, false, false, true] ∧ WOut p (Value.slice A len cap).ownBlock (Value.slice A' len' cap').ownBlock w w' := CodeB_c h 1 (by decide) 3 (by decide)
theorem Wr.len1 (h : Wr w p A len cap 6 [true, false, true, false, false, true]) : len = 1 := h.hl.out
end
end Go.Proofs.Ytanhgjaokgnlhaa
