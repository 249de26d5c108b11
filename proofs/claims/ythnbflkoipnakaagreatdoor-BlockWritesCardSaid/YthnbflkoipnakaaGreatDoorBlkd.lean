/-
  TOKENS THAT ARE PUT: the contract of codes.put. No conditions.
-/
import Derived.Test.YthnbflkoipnakaaGreatDoorBlkc
import Derived.Test.YthnbflkoipnakaaGreatDoorSym
namespace Go.Proofs.YthnbflkoipnakaaGreatDoor
open Go.RowKit
set_option maxRecDepth 1000000
set_option linter.unusedVariables false

/-- a symbol's bits -/
def symB (l : List Int) (s : Int) (size v : Nat) : List Bool := codeB (codeAt l s) (heldN (lenAt l s : Nat) 32) ++ putB v (heldN (size : Nat) 32)
theorem symB_le (l : List Int) (s : Int) (size v : Nat) : (symB l s size v).length ≤ 64 := by
  unfold symB
  rw [List.length_append, codeB_length, putB_length]
  have := heldN_le (lenAt l s : Nat) 32
  have := heldN_le (size : Nat) 32
  omega
/-- a token's bits -/
def tokB (l d : List Int) (t : Tok) : List Bool := if t.len = 0 then symB l t.lit.n 0 0 else symB l (lenC t.len : Nat) (lenX t.len) (lenV t.len) ++ symB d (dstC t.dist : Nat) (dstX t.dist) (dstV t.dist)
theorem tokB_le (l d : List Int) (t : Tok) : (tokB l d t).length ≤ 128 := by
  unfold tokB
  have h1 := symB_le l t.lit.n 0 0
  have h2 := symB_le l (lenC t.len : Nat) (lenX t.len) (lenV t.len)
  have h3 := symB_le d (dstC t.dist : Nat) (dstX t.dist) (dstV t.dist)
  split
  · omega
  · rw [List.length_append]; omega
def toksB (l d : List Int) (T : List Tok) : List Bool := T.flatMap (tokB l d)
theorem toksB_snoc (l d : List Int) (T : List Tok) (t : Tok) : toksB l d (T ++ [t]) = toksB l d T ++ tokB l d t := by unfold toksB; simp
theorem toksB_le (l d : List Int) (T : List Tok) : (toksB l d T).length ≤ 128 * T.length := by
  induction T with
  | nil => simp [toksB]
  | cons t r ih =>
    have h1 := tokB_le l d t
    show (tokB l d t ++ toksB l d r).length ≤ _
    rw [List.length_append, List.length_cons]
    omega
theorem WOut.alloc {p : Nat} {a b : Option Nat} {w w' : World} (h : WOut p a b w w') (o : Obj) : WOut p a b w (w'.alloc o) :=
  ⟨h.os, h.tape, h.output, by rw [World.size_alloc]; have := h.size; omega, fun k hk hp ha => (Below.heap_alloc _ _ _ (Nat.lt_of_lt_of_le hk h.size)).trans (h.block k hk hp ha), h.nw⟩
theorem WOut.low {p : Nat} {a b : Option Nat} {w w' w'' : World} (h : WOut p a b w' w'') (hb : w.heap.size ≤ w'.heap.size) (hk : ∀ k, k < w.heap.size → w'.heap[k]? = w.heap[k]?) (h1 : w'.os = w.os) (h2 : w'.tape = w.tape) (h3 : w'.output = w.output) : WOut p a b w w'' :=
  ⟨h.os.trans h1, h.tape.trans h2, h.output.trans h3, Nat.le_trans hb h.size, fun k hk2 hp ha => (h.block k (by omega) hp ha).trans (hk k hk2), by
    rcases h.nw with e | e
    · exact .inl e
    · exact .inr fun g hg => Nat.le_trans hb (e g hg)⟩
theorem putSymbol_d {w : World} {p : Nat} {A : Option Addr} {len cap m : Nat} {X : List Bool} (h : Wr w p A len cap m X) {q n : Nat} {l : List Int} {gc : Nat} {LA : Option Addr} {lc : Nat} {S : Nat → Value}
    (ht : TabIn w q n l gc LA lc S) (s : Int) (hs : codeAt l s < 4294967296) (size v : Nat) (hv : v < 4294967296) (hroom : m + 64 ≤ 1000000) :
    Calls Tryz.prog 67 #[.pointer (some ⟨p, 0, none⟩), .pointer (some ⟨q, 0, none⟩), .int .i64 s, .int .i64 (size : Nat), .int .i64 v] w fun e w' => e = .returned (.tuple #[]) ∧ ∃ A' len' cap' m', Wr w' p A' len' cap' m' (X ++ symB l s size v) ∧ m' ≤ m + 64 ∧ WOut p (Value.slice A len cap).ownBlock (Value.slice A' len' cap').ownBlock w w' := by
  have hk1 := heldN_le (lenAt l s : Nat) 32
  have hk2 := heldN_le (size : Nat) 32
  refine (putSymbol_c (B := 0) h ht s hs (size : Nat) v hv hroom).mono ?_
  rintro e w' ⟨rfl, A', len', cap', hW, hO⟩
  rw [List.append_assoc] at hW
  exact ⟨rfl, A', len', cap', _, hW, by omega, hO⟩
theorem lenV_lt (n : Int) : lenV n < 4294967296 ∧ dstV n < 4294967296 := by
  unfold lenV dstV
  constructor <;> split <;> omega
theorem Blk.woutK {w w' : World} {p g : Nat} {a b : Option Nat} {t : TypeId} {C : Array Value} (h : Blk w g t C) (ho : WOut p a b w w') (hp : g ≠ p) (ha : a ≠ some g) : Blk w' g t C := by
  have hl := h.lt
  unfold Blk at h ⊢
  rw [ho.block g hl hp ha]
  exact h
theorem Tabs.woutK {w w' : World} {p : Nat} {a b : Option Nat} (h : Tabs w) (ho : WOut p a b w w') (hp : 1 < p) (ha : ∀ g, a = some g → 1 < g) : Tabs w' := by
  have h1 := h.size
  have k0 := ho.block 0 (by omega) (by omega) (fun e => by have := ha 0 e; omega)
  have k1 := ho.block 1 (by omega) (by omega) (fun e => by have := ha 1 e; omega)
  exact ⟨by have := ho.size; omega, fun i hi => (World.cell?_of_block (a := ⟨0, i, none⟩) k0).trans (h.len i hi), fun i hi => (World.cell?_of_block (a := ⟨1, i, none⟩) k1).trans (h.dist i hi)⟩
end Go.Proofs.YthnbflkoipnakaaGreatDoor
