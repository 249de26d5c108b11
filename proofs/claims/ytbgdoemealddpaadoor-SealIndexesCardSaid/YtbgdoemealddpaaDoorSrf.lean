/-
  STRIPES: what each byte comes to at a column that follows: the program's. No conditions.
-/
import Derived.Test.YtbgdoemealddpaaDoorBase
import Derived.StillTailTactics
namespace Go.Proofs.YtbgdoemealddpaaDoor
open Go.RowKit
set_option maxRecDepth 100000
set_option linter.unusedVariables false

/-- values told by the index -/
def vs (f : Nat → Value) (n : Nat) : List Value := (List.range n).map f
theorem vs_length (f : Nat → Value) (n : Nat) : (vs f n).length = n := by simp [vs]
theorem vs_at (f : Nat → Value) {n i : Nat} (h : i < n) : (vs f n)[i]? = some (f i) := by simp [vs, h]
theorem vs_congr {f g : Nat → Value} {n : Nat} (h : ∀ i, i < n → f i = g i) : vs f n = vs g n := by
  unfold vs
  exact List.map_congr_left fun i hi => by rw [h i (List.mem_range.1 hi)]
theorem vs_set {f g : Nat → Value} {n i : Nat} {v : Value} (h : ∀ j, j < n → g j = if j = i then v else f j) : (vs f n).set i v = vs g n := by
  refine List.ext_getElem? fun j => ?_
  rw [List.getElem?_set]
  by_cases hj : j < n
  · rw [vs_at g hj, h j hj, vs_length]
    by_cases e : i = j
    · subst e; rw [if_pos rfl, if_pos hj, if_pos rfl]
    · rw [if_neg e, if_neg (fun h => e h.symm), vs_at f hj]
  · have h1 : ∀ q : Nat → Value, (vs q n)[j]? = none := fun q => List.getElem?_eq_none (by rw [vs_length]; omega)
    rw [h1 f, h1 g, vs_length]
    by_cases e : i = j
    · rw [if_pos e, if_neg (by omega)]
    · rw [if_neg e]
theorem vs_one {f : Nat → Value} {n : Nat} (h : ∀ i, i < n → (f i).oneCell' = true) : ∀ u ∈ vs f n, u.oneCell' = true := by
  intro u hu
  obtain ⟨b, hb, rfl⟩ := List.mem_map.1 hu
  exact h b (List.mem_range.1 hb)
theorem storeCells_vs {t : TypeId} {m : Nat} (hs : (Tryd.prog.info? t).map (·.size) = some m) (w : World) (g : Nat) (C : Array Value) (f : Nat → Value) (hC : C.size = m) (hf : ∀ i, i < m → (f i).oneCell' = true) (h : Blk w g t C) : Sem.run Tryd.prog (storeCells ⟨g, 0, none⟩ (vs f m) 0) w = .ok () (w.setRow g (vs f m).toArray) := by
  have h1 : Sem.run Tryd.prog (storeVar t ⟨g, 0, none⟩ (.agg (vs f m).toArray)) w = .ok () (w.setRow g (vs f m).toArray) := run_storeVar_row w g _ _ _ _ h (by rw [hs, List.size_toArray, vs_length]) (by rw [hC, List.size_toArray, vs_length]) (by
    rw [Array.all_eq_true_iff_forall_mem]
    intro u hu
    exact vs_one hf u (by simpa using hu))
  cases hq : Tryd.prog.info? t with
  | none => simp [hq] at hs
  | some i =>
    have hs2 : i.size = m := by simpa [hq] using hs
    simpa [storeVar, sizeOf, typeInfo, hq, Value.cells, hs2, vs_length] using h1
theorem pow_shl23 {b P : Nat} (hb : b < 8) (hP : P = 2 ^ b) : (2 : Int) ^ b = (P : Int) ∧ 1 ≤ P ∧ P ≤ 128 := by
  have h1 : (2 : Nat) ^ b ≤ 2 ^ 7 := Nat.pow_le_pow_right (by decide) (by omega)
  have h2 : 0 < 2 ^ b := Nat.pow_pos (by decide)
  subst hP
  exact ⟨by push_cast; rfl, by omega, by omega⟩
/-- sums of bytes whose bits below the b-th alone are set -/
def Rec8 (B : Nat → F) (s : Nat → F) (b : Nat) : Prop := s 0 = 0 ∧ ∀ c, c < b → ∀ v, v < 2 ^ c → s (2 ^ c + v) = s v + B c
theorem Rec8.congr {B s t : Nat → F} {b : Nat} (h : Rec8 B s b) (e : ∀ v, v < 2 ^ b → t v = s v) : Rec8 B t b := by
  refine ⟨by rw [e 0 (Nat.pow_pos (by decide)), h.1], fun c hc v hv => ?_⟩
  have h1 : (2 : Nat) ^ (c + 1) ≤ 2 ^ b := Nat.pow_le_pow_right (by decide) hc
  rw [Nat.pow_succ] at h1
  rw [e _ (by omega), e _ (by omega), h.2 c hc v hv]
