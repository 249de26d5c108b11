/-
  ROWS OF TOKENS IN MEMORY. No conditions.
-/
import Derived.Test.YtldgdofefcehnaaGreatDoorMch
namespace Go.Proofs.YtldgdofefcehnaaGreatDoor
open Go.RowKit
set_option maxRecDepth 1000000
set_option linter.unusedVariables false
def tg (T : List Tok) (i : Nat) : Tok := T.getD i ⟨0, 0, 0⟩
theorem tg_cons (t : Tok) (r : List Tok) (i : Nat) : tg (t :: r) (i + 1) = tg r i := by simp [tg]
theorem take_tg {T : List Tok} {k : Nat} (h : k < T.length) : T.take (k + 1) = T.take k ++ [tg T k] := by
 rw [List.take_add_one]
 simp [tg, h]
def TokWf (t : Tok) : Prop := (Lit.int .i64 t.len).wf = true ∧ (Lit.int .i64 t.dist).wf = true
structure TRow (w : World) (A : Option Addr) (n : Nat) (T : List Tok) : Prop where
 len : T.length = n
 max : n ≤ maxLen
 top : 0 < n → ∃ b off, A = some ⟨b, off, none⟩ ∧ b < w.heap.size ∧ ∀ i, i < n → w.cell? ⟨b, off + i * 3, none⟩ = some (.int .u8 (tg T i).lit.n) ∧ w.cell? ⟨b, off + i * 3 + 1, none⟩ = some (.int .i64 (tg T i).len) ∧ w.cell? ⟨b, off + i * 3 + 2, none⟩ = some (.int .i64 (tg T i).dist)
 wf : ∀ i, i < n → TokWf (tg T i)
namespace TRow
variable {w w' : World} {A : Option Addr} {n : Nat} {T : List Tok}
theorem below (h : TRow w A n T) (hb : Below w.heap.size w w') : TRow w' A n T :=
 ⟨h.len, h.max, fun hn => by
  obtain ⟨b, off, e, hl, hc⟩ := h.top hn
  refine ⟨b, off, e, by have := hb.size; omega, fun i hi => ?_⟩
  obtain ⟨c0, c1, c2⟩ := hc i hi
  exact ⟨(hb.cell (p := ⟨b, off + i * 3, none⟩) hl).trans c0, (hb.cell (p := ⟨b, off + i * 3 + 1, none⟩) hl).trans c1, (hb.cell (p := ⟨b, off + i * 3 + 2, none⟩) hl).trans c2⟩, h.wf⟩
theorem at_ (h : TRow w A n T) {i : Nat} (hi : i < n) : ∃ b off, A = some ⟨b, off, none⟩ ∧ b < w.heap.size ∧ w.cell? ⟨b, off + i * 3, none⟩ = some (.int .u8 (tg T i).lit.n) ∧ w.cell? ⟨b, off + i * 3 + 1, none⟩ = some (.int .i64 (tg T i).len) ∧ w.cell? ⟨b, off + i * 3 + 2, none⟩ = some (.int .i64 (tg T i).dist) := by
 obtain ⟨b, off, e, hl, hc⟩ := h.top (by omega)
 exact ⟨b, off, e, hl, hc i hi⟩
end TRow
theorem Blk.trip {w : World} {g : Nat} {t : TypeId} {a b c : Value} (h : Blk w g t #[a, b, c]) :
  (w.cell? ⟨g, 0, none⟩ = some a ∧ w.cell? ⟨g, 1, none⟩ = some b ∧ w.cell? ⟨g, 2, none⟩ = some c) ∧ (w.frozen? ⟨g, 0, none⟩ = false ∧ w.frozen? ⟨g, 1, none⟩ = false ∧ w.frozen? ⟨g, 2, none⟩ = false) :=
 ⟨⟨by simpa using h.cell 0, by simpa using h.cell 1, by simpa using h.cell 2⟩, h.frozen 0, h.frozen 1, h.frozen 2⟩
def tkV (t : Tok) : Value := .agg #[.int .u8 t.lit.n, .int .i64 t.len, .int .i64 t.dist]
theorem belT {w w' : World} {o : Obj} (b : Below (w.alloc o).heap.size (w.alloc o) w') : Below w.heap.size w w' := ((Below.refl w.heap.size w).alloc (Nat.le_refl _) o).trans (b.mono (by simp))
def okF : List Tok → Nat
 | [] => 0
 | t :: r => if TokOk t then okF r + 1 else 0
theorem okF_le (T : List Tok) : okF T ≤ T.length := by
 induction T with
 | nil => simp [okF]
 | cons t r ih => unfold okF; split <;> simp <;> omega
theorem okF_at : ∀ {T : List Tok} {i : Nat}, i < okF T → TokOk (tg T i) := by
 intro T
 induction T with
 | nil => intro i h; simp [okF] at h
 | cons t r ih =>
  intro i h
  unfold okF at h
  split at h
  ·rename_i h1
   cases i with
   | zero => exact h1
   | succ i => rw [tg_cons]; exact ih (by omega)
  ·omega
theorem okF_end : ∀ {T : List Tok}, okF T < T.length → ¬ TokOk (tg T (okF T)) := by
 intro T
 induction T with
 | nil => intro h; simp at h
 | cons t r ih =>
  intro h
  by_cases h1 : TokOk t
  ·have e : okF (t :: r) = okF r + 1 := by simp only [okF]; rw [if_pos h1]
   rw [e] at h ⊢
   rw [tg_cons]
   exact ih (by simpa using h)
  ·have e : okF (t :: r) = 0 := by simp only [okF]; rw [if_neg h1]
   rw [e]
   exact h1
theorem okF_is {T : List Tok} {k : Nat} (h1 : ∀ i, i < k → TokOk (tg T i)) (h2 : k = T.length ∨ k < T.length ∧ ¬ TokOk (tg T k)) : okF T = k := by
 rcases Nat.lt_trichotomy (okF T) k with h | h | h
 ·exfalso
  have hk : k ≤ T.length := by omega
  exact okF_end (by omega) (h1 _ h)
 ·exact h
 ·exfalso
  have := okF_le T
  rcases h2 with h2 | h2
  ·omega
  ·exact h2.2 (okF_at h)
end Go.Proofs.YtldgdofefcehnaaGreatDoor
