/-
  SEALS: rows of sums that come in, a seal's values, how many blocks, whatever the geometry. No conditions.
-/
import Derived.Test.YtbgdoemealddpaaDoorCrc7
import Derived.Test.YtbgdoemealddpaaDoorRec
import Derived.Test.YtbgdoemealddpaaDoorSrb
namespace Go.Proofs.YtbgdoemealddpaaDoor
open Go.RowKit
set_option maxRecDepth 100000
set_option linter.unusedVariables false

theorem word_ofS {a : Int} (h : (Lit.int .u32 a).wf = true) : ∃ x : G, a = (x.n : Int) := by
  have h1 : 0 ≤ a ∧ a < 4294967296 := by
    simp [Lit.wf, IntKind.min, IntKind.max, IntKind.bits, IntKind.signed] at h
    omega
  refine ⟨ofG a.toNat, ?_⟩
  rw [ofG_n _ (by omega)]
  omega
theorem words_ofS {zs : List Int} (h : ∀ n ∈ zs, (Lit.int .u32 n).wf = true) : ∃ l : List G, zs = l.map fun x => (x.n : Int) := by
  induction zs with
  | nil => exact ⟨[], rfl⟩
  | cons a r ih =>
    obtain ⟨x, rfl⟩ := word_ofS (h a (by simp))
    obtain ⟨l, rfl⟩ := ih fun n hn => h n (by simp [hn])
    exact ⟨x :: l, rfl⟩
theorem gg_lt {l : List G} {i : Nat} (h : i < l.length) : gg l i = l[i] := by simp [gg, h]
theorem GRow.ofCellsS {w : World} {x : Addr} {len cap : Nat} {zs : List Int} (hl : len ≤ cap) (hm : cap ≤ maxLen) (hz : zs.length = cap)
    (hcell : ∀ i, i < zs.length → w.cell? (x.add i) = some (.int .u32 (zs.getD i 0))) (hw : ∀ n ∈ zs, (Lit.int .u32 n).wf = true) : ∃ l, GRow w (some x) len l := by
  obtain ⟨l, rfl⟩ := words_ofS hw
  rw [List.length_map] at hz hcell
  refine ⟨l.take len, by simp; omega, by omega, fun hn => ?_⟩
  obtain ⟨b, off, spot⟩ := x
  have h0 := hcell 0 (by omega)
  have hspot : spot = none := by simpa [Addr.add] using World.cell?_spot h0
  subst hspot
  refine ⟨b, off, rfl, World.block_lt_of_cell? w _ h0, fun i hi => ?_⟩
  have h1 := hcell i (by omega)
  have e : (⟨b, off, none⟩ : Addr).add i = ⟨b, off + i, none⟩ := by unfold Addr.add; split <;> simp_all
  rw [e] at h1
  rw [h1, gg_lt (by simp; omega)]
  simp [List.getD, show i < l.length by omega]
/-- a row of rows of sums that came in -/
structure GIn (w : World) (A : Option Addr) (n cap : Nat) (RA : Nat → Option Addr) (RL RC : Nat → Nat) (R : Nat → List G) : Prop where
  le : n ≤ cap
  max : cap ≤ maxLen
  top : 0 < n → ∃ b off, A = some ⟨b, off, none⟩ ∧ b < w.heap.size ∧ ∀ r, r < n → w.cell? ⟨b, off + r, none⟩ = some (.slice (RA r) (RL r) (RC r))
  row : ∀ r, r < n → GRow w (RA r) (RL r) (R r)
  cp : ∀ r, r < n → RL r ≤ RC r ∧ RC r ≤ maxLen
namespace GIn
variable {w w' : World} {A : Option Addr} {n cap : Nat} {RA : Nat → Option Addr} {RL RC : Nat → Nat} {R : Nat → List G}
theorem below (h : GIn w A n cap RA RL RC R) (hb : Below w.heap.size w w') : GIn w' A n cap RA RL RC R :=
  ⟨h.le, h.max, fun hn => by
    obtain ⟨b, off, e, hl, hc⟩ := h.top hn
    exact ⟨b, off, e, by have := hb.size; omega, fun r hr => (hb.cell (p := ⟨b, off + r, none⟩) hl).trans (hc r hr)⟩, fun r hr => (h.row r hr).below hb, h.cp⟩
theorem drewN (h : GIn w A n cap RA RL RC R) (q : Nat) : GIn (w.drewN q) A n cap RA RL RC R := ⟨h.le, h.max, h.top, fun r hr => (h.row r hr).drewN q, h.cp⟩
theorem at_ (h : GIn w A n cap RA RL RC R) {r : Nat} (hr : r < n) : ∃ b off, A = some ⟨b, off, none⟩ ∧ b < w.heap.size ∧ w.cell? ⟨b, off + r, none⟩ = some (.slice (RA r) (RL r) (RC r)) := by
  obtain ⟨b, off, e, hl, hc⟩ := h.top (by omega)
  exact ⟨b, off, e, hl, hc r hr⟩
theorem nmax (h : GIn w A n cap RA RL RC R) : n ≤ 9223372036854775807 := by have := h.le; have := h.max; unfold maxLen at this; omega
theorem nil (w : World) : GIn w none 0 0 RA RL RC R := ⟨Nat.le_refl _, by unfold maxLen; omega, fun h => by omega, fun r hr => by omega, fun r hr => by omega⟩
theorem ofCells {x : Addr} {Z : Nat → List Int} (hl : n ≤ cap) (hm : cap ≤ maxLen)
    (h : ∀ r, r < cap → w.cell? (x.add r) = some (.slice (RA r) (RL r) (RC r)) ∧ RL r ≤ RC r ∧ RC r ≤ maxLen ∧ (Z r).length = RC r ∧ (∀ n ∈ Z r, (Lit.int .u32 n).wf = true) ∧ (RA r = none → RC r = 0) ∧
      ∀ a', RA r = some a' → 0 ≤ a'.block ∧ ∀ c, c < RC r → w.cell? (a'.add c) = some (.int .u32 ((Z r).getD c 0))) : ∃ RA RL RC R, GIn w (some x) n cap RA RL RC R := by
  have key : ∀ r, r < n → ∃ l, GRow w (RA r) (RL r) l := fun r hr => by
    obtain ⟨h1, h2, h3, h4, h5, h6, h7⟩ := h r (by omega)
    cases hA : RA r with
    | none =>
      have e := h6 hA
      have e2 : RL r = 0 := by omega
      rw [e2]
      exact ⟨[], GRow.nil w none⟩
    | some a' =>
      obtain ⟨_, h8⟩ := h7 a' hA
      exact GRow.ofCellsS h2 h3 h4 (fun i hi => h8 i (by omega)) h5
  obtain ⟨R, hR⟩ := Go.Deep.choose_lt key
  refine ⟨RA, RL, RC, R, hl, hm, fun hn => ?_, hR, fun r hr => ⟨(h r (by omega)).2.1, (h r (by omega)).2.2.1⟩⟩
  obtain ⟨b, off, spot⟩ := x
  have h0 := (h 0 (by omega)).1
  have hspot : spot = none := by simpa [Addr.add] using World.cell?_spot h0
  subst hspot
  refine ⟨b, off, rfl, World.block_lt_of_cell? w _ h0, fun r hr => ?_⟩
  have h1 := (h r (by omega)).1
  have e : (⟨b, off, none⟩ : Addr).add r = ⟨b, off + r, none⟩ := by unfold Addr.add; split <;> simp_all
  rw [e] at h1
  exact h1
end GIn
/-- a right geometry's numbers -/
theorem right23_nat {N K S B : Int} (hr : right23 N K S B = true) : ∃ n k s b : Nat, N = n ∧ K = k ∧ S = s ∧ B = b ∧ 1 ≤ n ∧ n + k ≤ 255 ∧ 5 ≤ s ∧ s ≤ 16777216 ∧ 1 ≤ b ∧ b ≤ 16777216 := by
  have h := of_decide_eq_true hr
  exact ⟨N.toNat, K.toNat, S.toNat, B.toNat, by omega, by omega, by omega, by omega, by omega, by omega, by omega, by omega, by omega, by omega⟩
def blkN (s b : Nat) : Nat := (8 + s + b - 1) / b
theorem blkN_le {s b : Nat} (hs : s ≤ 16777216) (hb : b ≤ 16777216) : blkN s b ≤ 33554440 := Nat.le_trans (Nat.div_le_self _ _) (by omega)
theorem blkN_pos {s b : Nat} (hb : 1 ≤ b) : 1 ≤ blkN s b := by
  unfold blkN
  rw [Nat.le_div_iff_mul_le (by omega)]
  omega
def blk23 (N K S B : Int) : Nat := if right23 N K S B = true then blkN S.toNat B.toNat else 0
theorem blk23_yes {N K : Int} {s b : Nat} (hr : right23 N K s b = true) : blk23 N K s b = blkN s b := by
  unfold blk23
  rw [if_pos hr]
  rfl
theorem blk23_le (N K S B : Int) : blk23 N K S B ≤ 33554440 := by
  unfold blk23
  split
  · rename_i hr
    obtain ⟨n, k, s, b, rfl, rfl, rfl, rfl, _, _, _, h1, _, h2⟩ := right23_nat hr
    exact blkN_le h1 h2
  · omega
theorem BlocksU_c {N K S B : Int} (h : Wf4 N K S B) (w : World) : Calls Tryd.prog 34 #[.agg #[.int .i64 N, .int .i64 K, .int .i64 S, .int .i64 B]] w fun e w' => e = .returned (.int .i64 (blk23 N K S B : Nat)) ∧ Below w.heap.size w w' := by
  cases hr : right23 N K S B with
  | false =>
    have e : blk23 N K S B = 0 := by unfold blk23; rw [hr]; rfl
    rw [e]
    exact Blocks_no h hr w
  | true =>
    obtain ⟨n, k, s, b, rfl, rfl, rfl, rfl, _⟩ := right23_nat hr
    rw [blk23_yes hr]
    exact Blocks_yes h hr w
/-- how many bytes stand ahead of the column -/
def hdN (n k q : Nat) : Nat := 24 + 4 * (n + k) * q
def hd23 (N K S B : Int) : Nat := if right23 N K S B = true then hdN N.toNat K.toNat (blkN S.toNat B.toNat) else 0
theorem hdN_le {n k q : Nat} (h : n + k ≤ 255) (hq : q ≤ 33554440) : hdN n k q ≤ 34225528824 := by
  unfold hdN
  have h1 : 4 * (n + k) * q ≤ 1020 * 33554440 := Nat.mul_le_mul (by omega) hq
  omega
theorem hd23_yes {n k s b : Nat} (hr : right23 n k s b = true) : hd23 n k s b = hdN n k (blkN s b) := by
  unfold hd23
  rw [if_pos hr]
  rfl
theorem hd23_no {N K S B : Int} (hr : right23 N K S B = false) : hd23 N K S B = 0 := by
  unfold hd23
  rw [hr]
  rfl
end Go.Proofs.YtbgdoemealddpaaDoor
