/-
  THE CONTRACTS OF bits' WRITER. The writer is a block of its own; what it holds are the bits that were put.
-/
import Derived.Test.YtbphbogolffanaaDoorBit
import Derived.Test.YtbphbogolffanaaDoorNum
import Derived.Test.YtbphbogolffanaaDoorLit
import Derived.StillTailTactics
import Derived.RegionTactic
import Derived.Deep.RegionLaw
namespace Go.Proofs.YtbphbogolffanaaDoor
open Go.RowKit
set_option maxRecDepth 100000
set_option linter.unusedVariables false

/-- what stays as it was but the writer and its bytes' block -/
structure WOut (p : Nat) (a a' : Option Nat) (w w' : World) : Prop where
  os : w'.os = w.os
  tape : w'.tape = w.tape
  output : w'.output = w.output
  size : w.heap.size ≤ w'.heap.size
  block : ∀ k, k < w.heap.size → k ≠ p → a ≠ some k → w'.heap[k]? = w.heap[k]?
  nw : a' = a ∨ ∀ g, a' = some g → w.heap.size ≤ g
namespace WOut
variable {p : Nat} {a b c : Option Nat} {w w' w'' : World}
theorem refl (p : Nat) (a : Option Nat) (w : World) : WOut p a a w w := ⟨rfl, rfl, rfl, Nat.le_refl _, fun _ _ _ _ => rfl, .inl rfl⟩
theorem trans (h : WOut p a b w w') (k : WOut p b c w' w'') : WOut p a c w w'' :=
  ⟨k.os.trans h.os, k.tape.trans h.tape, k.output.trans h.output, Nat.le_trans h.size k.size, fun i hi hp ha => (k.block i (Nat.lt_of_lt_of_le hi h.size) hp (fun e => by
      rcases h.nw with h1 | h1
      · rw [h1] at e; exact ha e
      · have := h1 i e; omega)).trans (h.block i hi hp ha), by
    rcases k.nw with h1 | h1
    · rw [h1]; exact h.nw
    · exact .inr fun g hg => Nat.le_trans h.size (h1 g hg)⟩
theorem drewN (h : WOut p a b w w') (q : Nat) : WOut p a b w (w'.drewN q) := ⟨h.os, h.tape, h.output, h.size, h.block, h.nw⟩
theorem setP (h : WOut p a b w w') (i : Nat) (v : Value) : WOut p a b w (w'.setCell ⟨p, i, none⟩ v) :=
  ⟨h.os, h.tape, h.output, by simpa [World.setCell] using h.size, fun k hk hp ha => (Below.heap_setCell _ _ _ _ hp).trans (h.block k hk hp ha), h.nw⟩
theorem below {B : Nat} (h : WOut p a b w w') (hB : B ≤ p) (hs : B ≤ w.heap.size) (ha : ∀ g, a = some g → B ≤ g) : Below B w w' :=
  ⟨h.os, h.tape, h.output, h.size, fun k hk => h.block k (by omega) (by omega) (fun e => by have := ha k e; omega)⟩
end WOut
theorem own_set_other {w : World} {base n : Nat} {e : TypeId} {v : Value} {xs : List Value} (h : w.ownsRow base e 1 v n xs) {a : Addr} (ha : a.block < base) (u : Value) : (w.setCell a u).ownsRow base e 1 v n xs := by
  refine ⟨h.1, ?_⟩
  rcases h.2 with hn | ⟨g, cap, cur, rfl, hbg, hg, rest⟩
  · exact .inl hn
  · exact .inr ⟨g, cap, cur, rfl, hbg, (Below.heap_setCell w a u g (by omega)).trans hg, rest⟩
theorem own_addr {w : World} {base n c : Nat} {e : TypeId} {A : Option Addr} {xs : List Value} (h : w.ownsRow base e 1 (.slice A n c) n xs) (hn : 0 < n) : ∃ g, A = some ⟨g, 0, none⟩ ∧ base ≤ g ∧ g < w.heap.size := by
  rcases h.2 with ⟨hv, h0⟩ | ⟨g, cap, cur, hv, hb, hg, _⟩
  · omega
  · injection hv with hv
    exact ⟨g, hv, hb, (Array.getElem?_eq_some_iff.1 hg).1⟩
theorem heldB_c (s : Int) (w : World) : Calls Tryd.prog 56 #[.int .i64 s] w fun e w' => e = .returned (.int .i64 (heldN s 32)) ∧ w = w' := by
  go_enter Tryd.func56, Tryd.ntmps56
  go_wp2
  all_goals (go_ret; exact ⟨ret_i64 (by unfold heldN; omega), rfl⟩)
theorem odd32 (v : Nat) (hv : v < 4294967296) : bits BinOp.and IntKind.u32 (v : Int) 1 = ((v % 2 : Nat) : Int) := by
  rw [show (1 : Int) = ((1 : Nat) : Int) from rfl, u32_and_nat _ _ hv (by omega), Nat.and_one_is_mod]
section
variable {w : World} {p : Nat} {A : Option Addr} {len cap n : Nat} {X : List Bool}
end
/-- the bit is put into the last byte -/
theorem bit_or (a r : Nat) (v : Nat) (ha : a < 2 ^ r) (hr : r < 8) (hv : v < 4294967296) : bits BinOp.or IntKind.u8 (a : Int) (IntKind.u8.wrap (IntKind.u8.wrap ((v : Int) % 2) * 2 ^ r)) = ((a + (if v.testBit 0 then 2 ^ r else 0) : Nat) : Int) := by
  have hp : 2 ^ r ≤ 2 ^ 7 := Nat.pow_le_pow_right (by decide) (by omega)
  have e7 : (2 : Nat) ^ 7 = 128 := rfl
  have h2 : v % 2 * 2 ^ r = if v.testBit 0 then 2 ^ r else 0 := by
    rw [Nat.testBit_zero]
    rcases Nat.mod_two_eq_zero_or_one v with h | h <;> simp [h]
  have h3 : ((v % 2 : Nat) : Int) * 2 ^ r = ((v % 2 * 2 ^ r : Nat) : Int) := by simp
  have h4 : v % 2 * 2 ^ r ≤ 2 ^ r := by rw [h2]; split <;> omega
  have h5 : IntKind.u8.wrap ((v : Int) % 2) = ((v % 2 : Nat) : Int) := by rw [IntKind.wrap_u8']; omega
  rw [h5, h3, IntKind.wrap_u8', show ((v % 2 * 2 ^ r : Nat) : Int) % 256 = ((v % 2 * 2 ^ r : Nat) : Int) by omega, u8_or_nat _ _ (by omega) (by omega), h2, or_bit a r _ ha]
namespace Wm
variable {w : World} {p g k cap n r : Nat} {X : List Bool}
end Wm
theorem WOut.setG {p g : Nat} {a : Option Nat} {w w' : World} (h : WOut p a (some g) w w') (i : Nat) (v : Value) : WOut p a (some g) w (w'.setCell ⟨g, i, none⟩ v) := by
  refine h.trans ⟨rfl, rfl, rfl, by simp [World.setCell], fun k hk hp ha => Below.heap_setCell _ _ _ _ (fun e => ha (by simp at e; rw [e])), .inl rfl⟩
theorem WOut.drew {p : Nat} {a b : Option Nat} {w w' : World} (h : WOut p a b w w') : WOut p a b w w'.drew := ⟨h.os, h.tape, h.output, h.size, h.block, h.nw⟩
end Go.Proofs.YtbphbogolffanaaDoor
