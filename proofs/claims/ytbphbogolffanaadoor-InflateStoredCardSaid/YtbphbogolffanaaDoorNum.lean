/-
  NUMBERS AND ROWS OF NUMBERS THAT COME IN, bits of numbers. No conditions.
-/
import Derived.Test.YtbphbogolffanaaDoorOut
namespace Go.Proofs.YtbphbogolffanaaDoor
open Go.RowKit
set_option maxRecDepth 100000
set_option linter.unusedVariables false

/-- the bound of a number -/
def two64 : Nat := 18446744073709551616
/-- a row of numbers of one kind that came in -/
def gi (l : List Int) (i : Nat) : Int := l.getD i 0
structure IRow (w : World) (A : Option Addr) (n : Nat) (k : IntKind) (l : List Int) : Prop where
  len : l.length = n
  max : n ≤ maxLen
  cells : 0 < n → ∃ b off, A = some ⟨b, off, none⟩ ∧ b < w.heap.size ∧ ∀ i, i < n → w.cell? ⟨b, off + i, none⟩ = some (.int k (gi l i))
  wf : ∀ i, i < n → (Lit.int k (gi l i)).wf = true
namespace IRow
variable {w w' : World} {A : Option Addr} {n : Nat} {k : IntKind} {l : List Int}
theorem at_ (h : IRow w A n k l) {i : Nat} (hi : i < n) : ∃ b off, A = some ⟨b, off, none⟩ ∧ b < w.heap.size ∧ w.cell? ⟨b, off + i, none⟩ = some (.int k (gi l i)) := by
  obtain ⟨b, off, e, hb, hc⟩ := h.cells (by omega)
  exact ⟨b, off, e, hb, hc i hi⟩
theorem below (h : IRow w A n k l) (hb : Below w.heap.size w w') : IRow w' A n k l :=
  ⟨h.len, h.max, fun hn => by
    obtain ⟨b, off, e, hl, hc⟩ := h.cells hn
    exact ⟨b, off, e, by have := hb.size; omega, fun i hi => (hb.cell (p := ⟨b, off + i, none⟩) hl).trans (hc i hi)⟩, h.wf⟩
theorem drewN (h : IRow w A n k l) (q : Nat) : IRow (w.drewN q) A n k l := ⟨h.len, h.max, h.cells, h.wf⟩
theorem max' (h : IRow w A n k l) : n ≤ 9223372036854775807 := by have := h.max; unfold maxLen at this; exact this
theorem nil_ (w : World) (A : Option Addr) (k : IntKind) : IRow w A 0 k [] := ⟨rfl, by unfold maxLen; omega, fun h => absurd h (by omega), fun i hi => by omega⟩
theorem ofCells {x : Addr} {len cap : Nat} {zs : List Int} (hl : len ≤ cap) (hm : cap ≤ maxLen) (hz : zs.length = cap)
    (hcell : ∀ i, i < zs.length → w.cell? (x.add i) = some (.int k (zs.getD i 0))) (hw : ∀ n ∈ zs, (Lit.int k n).wf = true) : ∃ l, IRow w (some x) len k l := by
  have hg : ∀ i, i < len → gi (zs.take len) i = zs.getD i 0 := fun i hi => by
    unfold gi
    simp [List.getD, hi]
  refine ⟨zs.take len, by simp; omega, by omega, fun hn => ?_, fun i hi => ?_⟩
  · obtain ⟨b, off, spot⟩ := x
    have h0 := hcell 0 (by omega)
    have hspot : spot = none := by simpa [Addr.add] using World.cell?_spot h0
    subst hspot
    refine ⟨b, off, rfl, World.block_lt_of_cell? w _ h0, fun i hi => ?_⟩
    have h1 := hcell i (by omega)
    have e : (⟨b, off, none⟩ : Addr).add i = ⟨b, off + i, none⟩ := by unfold Addr.add; split <;> simp_all
    rw [e] at h1
    rw [h1, hg i hi]
  · rw [hg i hi]
    refine hw _ ?_
    rw [List.getD_eq_getElem?_getD, List.getElem?_eq_getElem (by omega)]
    exact List.getElem_mem _
end IRow
theorem wf_i64 {a : Int} (h : (Lit.int .i64 a).wf = true) : -9223372036854775808 ≤ a ∧ a ≤ 9223372036854775807 := by
  simp [Lit.wf, IntKind.min, IntKind.max, IntKind.bits, IntKind.signed] at h
  omega
theorem wf_u32 {a : Int} (h : (Lit.int .u32 a).wf = true) : 0 ≤ a ∧ a < 4294967296 := by
  simp [Lit.wf, IntKind.min, IntKind.max, IntKind.bits, IntKind.signed] at h
  omega
/-- the lowest bits of a number, below 0 too -/
theorem andLow (x : Int) (j : Nat) (hj : j < 63) : bits .and .i64 x ((2 ^ j - 1 : Nat) : Int) = x % 2 ^ j := by
  show IntKind.i64.wrap ((BitVec.ofInt 64 x &&& BitVec.ofInt 64 ((2 ^ j - 1 : Nat) : Int)).toNat : Int) = x % 2 ^ j
  have hp : (2 : Nat) ^ j < 2 ^ 63 := Nat.pow_lt_pow_right (by decide) hj
  have hp0 : 0 < (2 : Nat) ^ j := Nat.pow_pos (by decide)
  have e63 : (2 : Nat) ^ 63 = 9223372036854775808 := rfl
  have h2 : (BitVec.ofInt 64 ((2 ^ j - 1 : Nat) : Int)).toNat = 2 ^ j - 1 := by
    rw [BitVec.ofInt_natCast, BitVec.toNat_ofNat]
    exact Nat.mod_eq_of_lt (by omega)
  rw [BitVec.toNat_and, h2, BitVec.toNat_ofInt, Nat.and_two_pow_sub_one_eq_mod]
  have h3 : (x % (2 : Int) ^ 64).toNat % 2 ^ j = (x % 2 ^ j).toNat := by
    have h4 : 0 ≤ x % (2 : Int) ^ 64 := Int.emod_nonneg _ (by decide)
    have h5 : (0 : Int) ≤ x % 2 ^ j := Int.emod_nonneg _ (by have := Int.pow_pos (n := 2) (m := j) (by decide); omega)
    have h6 : (x % (2 : Int) ^ 64) % 2 ^ j = x % 2 ^ j := Int.emod_emod_of_dvd _ ⟨2 ^ (64 - j), by rw [← Int.pow_add, show j + (64 - j) = 64 by omega]⟩
    have h7 : (((x % (2 : Int) ^ 64).toNat % 2 ^ j : Nat) : Int) = (x % 2 ^ j) := by
      rw [Int.natCast_emod, Int.toNat_of_nonneg h4]
      simpa using h6
    omega
  have e64 : ((2 ^ 64 : Nat) : Int) = (2 : Int) ^ 64 := Int.natCast_pow 2 64
  rw [e64, h3]
  have h5 : (0 : Int) ≤ x % 2 ^ j := Int.emod_nonneg _ (by have := Int.pow_pos (n := 2) (m := j) (by decide); omega)
  have h8 : x % 2 ^ j < 2 ^ j := Int.emod_lt_of_pos _ (Int.pow_pos (by decide))
  have h9 : ((2 : Int) ^ j) = ((2 ^ j : Nat) : Int) := by simp
  rw [Int.toNat_of_nonneg h5]
  exact IntWalk.i64_in _ (by omega)
theorem num64_of {a : Int} (h : (Lit.int .u64 a).wf = true) : ∃ v : Nat, v < two64 ∧ a = (v : Int) := by
  have h1 : 0 ≤ a ∧ a < 18446744073709551616 := by
    simp [Lit.wf, IntKind.min, IntKind.max, IntKind.bits, IntKind.signed] at h
    omega
  exact ⟨a.toNat, by unfold two64; omega, by omega⟩
theorem num32_of {a : Int} (h : (Lit.int .u32 a).wf = true) : ∃ v : Nat, v < 4294967296 ∧ a = (v : Int) := by
  have h1 := wf_u32 h
  exact ⟨a.toNat, by omega, by omega⟩
theorem and31n (x : Int) : ∃ z : Nat, z ≤ 31 ∧ bits .and .i64 x 31 = (z : Int) := by
  have h := andLow x 5 (by decide)
  refine ⟨(x % 2 ^ 5).toNat, by omega, ?_⟩
  rw [show (31 : Int) = ((2 ^ 5 - 1 : Nat) : Int) from rfl, h]
  omega
end Go.Proofs.YtbphbogolffanaaDoor
