/-
  ROWS OF BYTES IN MEMORY: what a slice of bytes reads as, and how long that lasts. No conditions.
-/
import Derived.Test.YtbphbogolffanaaDoorF
import Derived.WalkKit
import Derived.Calls
import Derived.Below
import Derived.Lib.Hide
import Derived.Laws.OwnMore
import Derived.Deep.Draws
import Derived.Deep.AppendLies
import Derived.OwnWalk
namespace Go.Proofs.YtbphbogolffanaaDoor
open Go.RowKit

/-- the byte at a place, 0 behind the end -/
def gt (l : List F) (i : Nat) : F := l.getD i 0
/-- the cells of a row -/
def cs (l : List F) : List Value := l.map fun x => .int .u8 x.n

theorem gt_lt {l : List F} {i : Nat} (h : i < l.length) : gt l i = l[i] := by simp [gt, h]
theorem gt_ge {l : List F} {i : Nat} (h : l.length ≤ i) : gt l i = 0 := by simp [gt, h]
theorem cs_length (l : List F) : (cs l).length = l.length := by simp [cs]
theorem cs_at {l : List F} {i : Nat} (h : i < l.length) : (cs l)[i]? = some (.int .u8 (gt l i).n) := by
  rw [gt_lt h]; simp [cs, h]
theorem cs_append (l m : List F) : cs (l ++ m) = cs l ++ cs m := by simp [cs]
theorem cs_one (l : List F) : ∀ u ∈ cs l, u.oneCell' = true := by
  intro u hu
  simp only [cs, List.mem_map] at hu
  obtain ⟨x, _, rfl⟩ := hu
  rfl
theorem cs_inj {l m : List F} (h : cs l = cs m) : l = m := by
  unfold cs at h
  refine List.map_inj_right (fun x y e => ?_) |>.1 h
  injection e with _ e
  exact F.ext (by omega)

/-- The slice at A, of n bytes, reads as l. -/
def Row (w : World) (A : Option Addr) (n : Nat) (l : List F) : Prop :=
  l.length = n ∧ n ≤ maxLen ∧ (0 < n → ∃ b off, A = some ⟨b, off, none⟩ ∧ b < w.heap.size ∧ ∀ i, i < n → w.cell? ⟨b, off + i, none⟩ = some (.int .u8 (gt l i).n))

section
variable {w w' : World} {A : Option Addr} {n : Nat} {l : List F}
theorem Row.len (h : Row w A n l) : l.length = n := h.1
theorem Row.max (h : Row w A n l) : n ≤ 9223372036854775807 := by have := h.2.1; unfold maxLen at this; exact this
theorem Row.nil (w : World) (A : Option Addr) : Row w A 0 [] := ⟨rfl, by unfold maxLen; omega, fun h => absurd h (by omega)⟩
theorem Row.at_ (h : Row w A n l) {k : Nat} (hk : k < n) : ∃ b off, A = some ⟨b, off, none⟩ ∧ b < w.heap.size ∧ w.cell? ⟨b, off + k, none⟩ = some (.int .u8 (gt l k).n) := by
  obtain ⟨b, off, e, hb, hc⟩ := h.2.2 (by omega)
  exact ⟨b, off, e, hb, hc k hk⟩
theorem Row.keep (h : Row w A n l) (hs : w.heap.size ≤ w'.heap.size) (hk : ∀ p : Addr, p.block < w.heap.size → w'.cell? p = w.cell? p) : Row w' A n l :=
  ⟨h.1, h.2.1, fun hn => by
    obtain ⟨b, off, e, hb, hc⟩ := h.2.2 hn
    exact ⟨b, off, e, by omega, fun i hi => (hk ⟨b, off + i, none⟩ hb).trans (hc i hi)⟩⟩
theorem Row.below (h : Row w A n l) (hb : Below w.heap.size w w') : Row w' A n l := h.keep hb.size fun _ hp => hb.cell hp
theorem Row.drew (h : Row w A n l) : Row w.drew A n l := h
theorem Row.drewN (h : Row w A n l) (k : Nat) : Row (w.drewN k) A n l := h
theorem Row.alloc (h : Row w A n l) (o : Obj) : Row (w.alloc o) A n l := h.keep (by simp) fun p hp => World.cell?_alloc_lt w o p hp
/-- what a call owns reads as its cells -/
theorem Row.of_own {base c : Nat} {e : TypeId} (h : w.ownsRow base e 1 (.slice A n c) n (cs l)) : Row w A n l := by
  have hl : l.length = n := by have := h.1; rw [cs_length] at this; omega
  rcases h.2 with ⟨hv, h0⟩ | ⟨g, cap, cur, hv, hb, hg, hnc, hcm, hsz, ht⟩
  · subst h0
    exact ⟨hl, by unfold maxLen; omega, fun hn => absurd hn (by omega)⟩
  · injection hv with hA _ hc
    subst hA hc
    refine ⟨hl, Nat.le_trans hnc hcm, fun hn => ⟨g, 0, rfl, (h.lt g rfl).2, fun i hi => ?_⟩⟩
    rw [Nat.zero_add, h.cellAt i (by omega), cs_at (by omega)]
/-- cut -/
theorem Row.take (h : Row w A n l) {k : Nat} (hk : k ≤ n) : Row w A k (l.take k) := by
  refine ⟨by have := h.1; simp; omega, by have := h.2.1; omega, fun hk0 => ?_⟩
  obtain ⟨b, off, e, hb, hc⟩ := h.2.2 (by omega)
  refine ⟨b, off, e, hb, fun i hi => ?_⟩
  rw [hc i (by omega)]
  have h1 := h.1
  rw [gt_lt (by omega), gt_lt (by simp; omega)]
  simp
end

theorem bcell {W w1 : World} (hb : Below W.heap.size W w1) : (∀ b o, b < W.heap.size → w1.cell? ⟨b, o, none⟩ = W.cell? ⟨b, o, none⟩) ∧ (∀ b o, b < W.heap.size → w1.frozen? ⟨b, o, none⟩ = W.frozen? ⟨b, o, none⟩) :=
  ⟨fun b o h => hb.cell (p := ⟨b, o, none⟩) h, fun b o h => hb.frozen (p := ⟨b, o, none⟩) h⟩
theorem below_drewN {B : Nat} {a w : World} (h : Below B a w) (n : Nat) : Below B a (w.drewN n) := ⟨h.os, h.tape, h.output, h.size, h.block⟩
/-- below the first of two sizes -/
theorem Below.then_ {a b c : World} (h : Below a.heap.size a b) (k : Below b.heap.size b c) : Below a.heap.size a c := h.trans (k.mono h.size)
end Go.Proofs.YtbphbogolffanaaDoor
