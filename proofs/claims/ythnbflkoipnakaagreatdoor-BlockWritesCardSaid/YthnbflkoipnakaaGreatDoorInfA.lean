/-
  THE CONTRACTS OF the unpacker's small methods: number, bytes, symbol, put, meant, again. An error is a panic with its number. No conditions.
  THE CONTRACTS OF the unpacker's meant and again. No conditions.
  THE CONTRACT OF the unpacker's coded. No conditions.
-/
import Derived.Test.YthnbflkoipnakaaGreatDoorInf
import Derived.WalkLawsBesides
import Derived.Deep.LoopGhost
namespace Go.Proofs.YthnbflkoipnakaaGreatDoor
section
/- InfA -/
open Go.RowKit
set_option maxRecDepth 100000
set_option linter.unusedVariables false

/-- what stays as it was but the unpacker, its reader, and the block of what came out -/
structure UOut (p r : Nat) (a b : Option Nat) (w w' : World) : Prop where
  os : w'.os = w.os
  tape : w'.tape = w.tape
  output : w'.output = w.output
  size : w.heap.size ≤ w'.heap.size
  block : ∀ k, k < w.heap.size → k ≠ p → k ≠ r → a ≠ some k → w'.heap[k]? = w.heap[k]?
  nw : b = a ∨ ∀ g, b = some g → w.heap.size ≤ g
namespace UOut
variable {p r : Nat} {a b c : Option Nat} {w w' w'' : World}
theorem refl (p r : Nat) (a : Option Nat) (w : World) : UOut p r a a w w := ⟨rfl, rfl, rfl, Nat.le_refl _, fun _ _ _ _ _ => rfl, .inl rfl⟩
theorem trans (h : UOut p r a b w w') (k : UOut p r b c w' w'') : UOut p r a c w w'' :=
  ⟨k.os.trans h.os, k.tape.trans h.tape, k.output.trans h.output, Nat.le_trans h.size k.size, fun i hi hp hr ha => (k.block i (Nat.lt_of_lt_of_le hi h.size) hp hr (fun e => by
      rcases h.nw with h1 | h1
      · rw [h1] at e; exact ha e
      · have := h1 i e; omega)).trans (h.block i hi hp hr ha), by
    rcases k.nw with h1 | h1
    · rw [h1]; exact h.nw
    · exact .inr fun g hg => Nat.le_trans h.size (h1 g hg)⟩
theorem drewN (h : UOut p r a b w w') (q : Nat) : UOut p r a b w (w'.drewN q) := ⟨h.os, h.tape, h.output, h.size, h.block, h.nw⟩
theorem setP (h : UOut p r a b w w') (i : Nat) (v : Value) : UOut p r a b w (w'.setCell ⟨p, i, none⟩ v) :=
  ⟨h.os, h.tape, h.output, by simpa [World.setCell] using h.size, fun k hk hp hr ha => (Below.heap_setCell _ _ _ _ hp).trans (h.block k hk hp hr ha), h.nw⟩
theorem ofOut (h : Out r (r + 1) w w') : UOut p r a a w w' := ⟨h.os, h.tape, h.output, h.size, fun k hk _ hr _ => h.block k hk (by omega), .inl rfl⟩
theorem ofBelow (h : Below w.heap.size w w') : UOut p r a a w w' := ⟨h.os, h.tape, h.output, h.size, fun k hk _ _ _ => h.block k hk, .inl rfl⟩
theorem ofGrown (h : w.grownBy w' a) (hb : b = a ∨ ∀ g, b = some g → w.heap.size ≤ g) : UOut p r a b w w' := ⟨h.os, h.tape, h.output, h.size, fun k hk _ _ ha => h.block k hk (fun e => ha e.symm), hb⟩
theorem below {B : Nat} (h : UOut p r a b w w') (hp : B ≤ p) (hr : B ≤ r) (hs : B ≤ w.heap.size) (ha : ∀ g, a = some g → B ≤ g) : Below B w w' :=
  ⟨h.os, h.tape, h.output, h.size, fun k hk => h.block k (by omega) (by omega) (by omega) (fun e => by have := ha k e; omega)⟩
theorem blk {g : Nat} {t : TypeId} {C : Array Value} (h : UOut p r a b w w') (hg : Blk w g t C) (h1 : g ≠ p) (h2 : g ≠ r) (h3 : a ≠ some g) : Blk w' g t C := by
  have hl := hg.lt
  unfold Blk at hg ⊢
  rw [h.block g hl h1 h2 h3]
  exact hg
end UOut
theorem Tabs.uout {w w' : World} {p r : Nat} {a b : Option Nat} (h : Tabs w) (hp : 1 < p) (hr : 1 < r) (ha : ∀ g, a = some g → 1 < g) (ho : UOut p r a b w w') : Tabs w' := by
  have hs := h.size
  have hs2 := ho.size
  refine ⟨by omega, fun i hi => ?_, fun i hi => ?_⟩
  · rw [World.cell?_of_block (a := ⟨0, i, none⟩) (ho.block 0 (by omega) (by omega) (by omega) (fun e => by have := ha 0 e; omega))]
    exact h.len i hi
  · rw [World.cell?_of_block (a := ⟨1, i, none⟩) (ho.block 1 hs (by omega) (by omega) (fun e => by have := ha 1 e; omega))]
    exact h.dist i hi
namespace UnP
variable {w w' : World} {H p r : Nat} {RA : Option Addr} {len rc : Nat} {l : List F} {A : Option Addr} {n c : Nat} {u u' : Un} {m : Nat} {x : Value}
end UnP
section
variable {w : World} {H p r : Nat} {RA : Option Addr} {len rc : Nat} {l : List F} {A : Option Addr} {n c : Nat} {u : Un} {m : Nat} {x : Value}
theorem held_of {s : Nat} (hs : s ≤ 32) : heldN (s : Int) 32 = s := by unfold heldN; omega
/-- a table of codes in memory, apart from what an unpacker writes -/
structure Tbl (w : World) (p r : Nat) (a : Option Nat) (q : Nat) (l : List Int) : Prop where
  ex : ∃ n gc LA lc S, TabIn w q n l gc LA lc S ∧ FarT p q n gc LA S ∧ FarT r q n gc LA S ∧ ∀ g, a = some g → FarT g q n gc LA S
theorem TabIn.uout {w w' : World} {p r : Nat} {a b : Option Nat} {q n : Nat} {l : List Int} {gc : Nat} {LA : Option Addr} {lc : Nat} {S : Nat → Value} (h : TabIn w q n l gc LA lc S) (hp : FarT p q n gc LA S) (hr : FarT r q n gc LA S) (ha : ∀ g, a = some g → FarT g q n gc LA S) (ho : UOut p r a b w w') : TabIn w' q n l gc LA lc S := by
  have hs := ho.size
  have key : ∀ k, k < w.heap.size → (∀ y, FarT y q n gc LA S → k ≠ y) → w'.heap[k]? = w.heap[k]? := fun k hk hy => ho.block k hk (hy p hp) (hy r hr) (fun e => hy k (ha k e) rfl)
  refine ⟨?_, fun i hi => ?_, ?_, fun j hj => ?_, h.ok, fun j hj g hg => by have := h.held j hj g hg; omega⟩
  · have h1 := h.blk
    have h2 := h1.lt
    unfold Blk at h1 ⊢
    rw [key q h2 fun y hy => hy.tab]
    exact h1
  · obtain ⟨h1, h2⟩ := h.codes i hi
    refine ⟨by omega, ?_⟩
    rw [World.cell?_of_block (a := ⟨gc, i, none⟩) (key gc h1 fun y hy => hy.cod (by omega))]
    exact h2
  · refine ⟨h.lens.len, h.lens.max, fun hn => ?_, h.lens.wf⟩
    obtain ⟨b, off, e, hl, hc⟩ := h.lens.cells hn
    refine ⟨b, off, e, by omega, fun i hi => ?_⟩
    rw [World.cell?_of_block (a := ⟨b, off + i, none⟩) (key b hl fun y hy => hy.len hn b off e)]
    exact hc i hi
  · obtain ⟨O, c, h1, h2⟩ := h.rows j hj
    refine ⟨O, c, h1, fun i hi hij => ?_⟩
    obtain ⟨g, h3, h4, h5⟩ := h2 i hi hij
    refine ⟨g, h3, by omega, ?_⟩
    rw [World.cell?_of_block (a := ⟨g, cL l j i, none⟩) (key g h4 fun y hy e => hy.row j hj (by rw [h1, own_block_at h3, e]))]
    exact h5
theorem Tbl.step {w w' : World} {p r : Nat} {a b : Option Nat} {q : Nat} {l : List Int} (h : Tbl w p r a q l) (ho : UOut p r a b w w') : Tbl w' p r b q l := by
  obtain ⟨n, gc, LA, lc, S, h1, h2, h3, h4⟩ := h.ex
  refine ⟨n, gc, LA, lc, S, h1.uout h2 h3 h4 ho, h2, h3, fun g hg => ?_⟩
  rcases ho.nw with e | e
  · exact h4 g (by rw [← e]; exact hg)
  · exact h1.far (e g hg)
end
end
section
/- InfB -/
open Go.RowKit
set_option maxRecDepth 100000
set_option linter.unusedVariables false

section
variable {w : World} {H p r : Nat} {RA : Option Addr} {len rc : Nat} {l : List F} {A : Option Addr} {n c : Nat} {u : Un} {m : Nat} {x : Value}
end
end
section
/- InfC -/
open Go.RowKit
set_option maxRecDepth 100000
set_option linter.unusedVariables false

theorem lxI_le (c : Int) : lxI c ≤ 7 := by
  have : ∀ k, k < 29 → lx k ≤ 7 := by decide +kernel
  unfold lxI
  split
  · exact this _ (by omega)
  · omega
theorem dxI_le (c : Int) : dxI c ≤ 13 := by
  have : ∀ k, k < 30 → dx k ≤ 13 := by decide +kernel
  unfold dxI
  split
  · exact this _ (by omega)
  · omega
theorem lbI_le (c : Int) : lbI c ≤ 258 := by
  unfold lbI
  split
  · have := lb_lt (k := (c - 257).toNat) (by omega); omega
  · omega
theorem dbI_le (c : Int) : dbI c ≤ 24577 := by
  unfold dbI
  split
  · have := db_lt (k := c.toNat) (by omega); omega
  · omega
theorem dbI_pos {c : Int} (h : dokI c = true) : 1 ≤ dbI c := by
  have h1 : 0 ≤ c ∧ c ≤ 29 := of_decide_eq_true h
  unfold dbI
  rw [if_pos h1]
  exact db_pos (by omega)
theorem meantF_ok {l : List F} {b s : Nat} {ok : Bool} {u : Un} {x : Nat × Un} (h : meantF l b s ok u = .ok x) : ok = true := by
  cases ok with
  | false => cases h
  | true => rfl
theorem Tbl.len {w : World} {p r : Nat} {a : Option Nat} {q : Nat} {l : List Int} (h : Tbl w p r a q l) : l.length ≤ 288 := by
  obtain ⟨n, gc, LA, lc, S, h1, _⟩ := h.ex
  have := h1.ok.len
  have := h1.ok.few
  omega
section
variable {w : World} {H p r : Nat} {RA : Option Addr} {len rc : Nat} {l : List F} {A : Option Addr} {n c : Nat} {u : Un} {m : Nat} {x : Value}
end
end
end Go.Proofs.YthnbflkoipnakaaGreatDoor
