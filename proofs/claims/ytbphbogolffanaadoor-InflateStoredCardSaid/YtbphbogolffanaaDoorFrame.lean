/-
  WHAT EACH PROOF's FRAME TAKES: the program's own knob, how memory is laid out, and rows of bytes that come in. No conditions.
-/
import Derived.Test.YtbphbogolffanaaDoorChecked
import Derived.Test.YtbphbogolffanaaDoorRow
import Derived.WalkKit
import Derived.ProofKit
import Derived.OpenShut
import Derived.ShutString
import Derived.ChangeOld
import Derived.Below
namespace Go.Proofs.YtbphbogolffanaaDoor
open Go.ChangeShapes Go.WideShapes Go.ChangeAt Go.RowKit

theorem own : ownKnob Tryd.prog.godebug = none := by kernel_rfl
theorem laidOut : laidOutB Tryd.prog = true := by kernel_rfl

theorem byte_of {a : Int} (h : (Lit.int .u8 a).wf = true) : ∃ x : F, a = (x.n : Int) := by
  have h1 : 0 ≤ a ∧ a < 256 := by
    simp [Lit.wf, IntKind.min, IntKind.max, IntKind.bits, IntKind.signed] at h
    omega
  refine ⟨ofN a.toNat, ?_⟩
  rw [ofN_n _ (by omega)]
  omega
theorem bytes_of {zs : List Int} (h : ∀ n ∈ zs, (Lit.int .u8 n).wf = true) : ∃ l : List F, zs = l.map fun x => (x.n : Int) := by
  induction zs with
  | nil => exact ⟨[], rfl⟩
  | cons z zs ih =>
    obtain ⟨l, hl⟩ := ih fun n hn => h n (List.mem_cons_of_mem _ hn)
    obtain ⟨x, hx⟩ := byte_of (h z List.mem_cons_self)
    exact ⟨x :: l, by rw [hl, hx]; rfl⟩
/-- a row of bytes that came in: its first 'len' bytes, and how far it reaches -/
structure RowIn (w : World) (A : Option Addr) (len cap : Nat) (l : List F) : Prop where
  row : Row w A len l
  le : len ≤ cap
  max : cap ≤ maxLen
theorem RowIn.below {w w' : World} {A : Option Addr} {n c : Nat} {l : List F} (h : RowIn w A n c l) (hb : Below w.heap.size w w') : RowIn w' A n c l := ⟨h.row.below hb, h.le, h.max⟩
theorem RowIn.drewN {w : World} {A : Option Addr} {n c : Nat} {l : List F} (h : RowIn w A n c l) (q : Nat) : RowIn (w.drewN q) A n c l := ⟨h.row.drewN q, h.le, h.max⟩
/-- what a call owns stays where nothing below is written -/
theorem own_below {w w' : World} {base n : Nat} {e : TypeId} {v : Value} {xs : List Value} (h : w.ownsRow base e 1 v n xs) (hb : Below w.heap.size w w') : w'.ownsRow base e 1 v n xs :=
  h.kept (row := none) ⟨hb.os, hb.tape, hb.output, hb.size, fun k hk _ => hb.block k hk⟩ (by cases hv : v.ownBlock <;> simp)
theorem RowIn.nil_ (w : World) : RowIn w none 0 0 [] := ⟨Row.nil w none, Nat.le_refl _, by unfold maxLen; omega⟩
theorem RowIn.ofCells {w : World} {x : Addr} {len cap : Nat} {zs : List Int} (hl : len ≤ cap) (hm : cap ≤ maxLen) (hz : zs.length = cap)
    (hcell : ∀ i, i < zs.length → w.cell? (x.add i) = some (.int .u8 (zs.getD i 0))) (hw : ∀ n ∈ zs, (Lit.int .u8 n).wf = true) : ∃ l, RowIn w (some x) len cap l := by
  obtain ⟨l, rfl⟩ := bytes_of hw
  rw [List.length_map] at hz hcell
  refine ⟨l.take len, ⟨by simp; omega, by omega, fun hn => ?_⟩, hl, hm⟩
  obtain ⟨b, off, spot⟩ := x
  have h0 := hcell 0 (by omega)
  have hspot : spot = none := by simpa [Addr.add] using World.cell?_spot h0
  subst hspot
  refine ⟨b, off, rfl, World.block_lt_of_cell? w _ h0, fun i hi => ?_⟩
  have h1 := hcell i (by omega)
  have e : (⟨b, off, none⟩ : Addr).add i = ⟨b, off + i, none⟩ := by unfold Addr.add; split <;> simp_all
  rw [e] at h1
  rw [h1, gt_lt (by simp; omega)]
  simp [List.getD, show i < l.length by omega]
end Go.Proofs.YtbphbogolffanaaDoor
