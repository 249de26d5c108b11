/-
  STRIPES: what each byte comes to at a column that follows: the program's. No conditions.
-/
import Derived.Test.YtbmkcnlcffnjgaaBase
import Derived.StillTailTactics
namespace Go.Proofs.Ytbmkcnlcffnjgaa
open Go.RowKit
set_option maxRecDepth 100000
set_option linter.unusedVariables false

/-- values told by the index -/
def vs (f : Nat → Value) (n : Nat) : List Value := (List.range n).map f
theorem vs_length (f : Nat → Value) (n : Nat) : (vs f n).length = n := by simp [vs]
theorem vs_at (f : Nat → Value) {n i : Nat} (h : i < n) : (vs f n)[i]? = some (f i) := by simp [vs, h]
theorem vs_congr {f g : Nat → Value} {n : Nat} (h : ∀ i, i < n → f i = g i) : vs f n = vs g n := by
  unfold vs
  exact List.map_congr_left fun i hi => by rw [h i (List.mem_range.1 hi)]
theorem vs_set {f g : Nat → Value} {n i : Nat} {v : Value} (h : ∀ j, j < n → g j = if j = i then v else f j) : (vs f n).set i v = vs g n := by
  refine List.ext_getElem? fun j => ?_
  rw [List.getElem?_set]
  by_cases hj : j < n
  · rw [vs_at g hj, h j hj, vs_length]
    by_cases e : i = j
    · subst e; rw [if_pos rfl, if_pos hj, if_pos rfl]
    · rw [if_neg e, if_neg (fun h => e h.symm), vs_at f hj]
  · have h1 : ∀ q : Nat → Value, (vs q n)[j]? = none := fun q => List.getElem?_eq_none (by rw [vs_length]; omega)
    rw [h1 f, h1 g, vs_length]
    by_cases e : i = j
    · rw [if_pos e, if_neg (by omega)]
    · rw [if_neg e]
theorem info_a8 : (Try.prog.info? 66).map (fun i => (i.zero, i.size)) = some (some (.agg (vs (fun _ => .slice none 0 0) 8).toArray), 8) := by kernel_rfl
theorem info_a256 : (Try.prog.info? 68).map (fun i => (i.zero, i.size)) = some (some (.agg (vs (fun _ => .int .u8 0) 256).toArray), 256) := by kernel_rfl
theorem zero_a8 (w : World) : Sem.run Try.prog (zeroValue 66) w = .ok (.agg (vs (fun _ => .slice none 0 0) 8).toArray) w := (zero_of_info info_a8).1 w
theorem size_a8 : (Try.prog.info? 66).map (·.size) = some 8 := (zero_of_info info_a8).2
theorem zero_a256 (w : World) : Sem.run Try.prog (zeroValue 68) w = .ok (.agg (vs (fun _ => .int .u8 0) 256).toArray) w := (zero_of_info info_a256).1 w
theorem size_a256 : (Try.prog.info? 68).map (·.size) = some 256 := (zero_of_info info_a256).2
theorem load_a8 (w : World) (g : Nat) (f : Nat → Value) (h : Blk w g 66 (vs f 8).toArray) : Sem.run Try.prog (loadVar 66 ⟨g, 0, none⟩) w = .ok (.agg (vs f 8).toArray) w :=
  run_loadVar_row w g _ _ _ (0, 0) _ h Try.underlying66 rfl (by rw [size_a8, List.size_toArray, vs_length])
theorem load_a256 (w : World) (g : Nat) (f : Nat → Value) (h : Blk w g 68 (vs f 256).toArray) : Sem.run Try.prog (loadVar 68 ⟨g, 0, none⟩) w = .ok (.agg (vs f 256).toArray) w :=
  run_loadVar_row w g _ _ _ (0, 0) _ h Try.underlying68 rfl (by rw [size_a256, List.size_toArray, vs_length])
theorem vs_one {f : Nat → Value} {n : Nat} (h : ∀ i, i < n → (f i).oneCell' = true) : ∀ u ∈ vs f n, u.oneCell' = true := by
  intro u hu
  obtain ⟨b, hb, rfl⟩ := List.mem_map.1 hu
  exact h b (List.mem_range.1 hb)
theorem storeCells_vs {t : TypeId} {m : Nat} (hs : (Try.prog.info? t).map (·.size) = some m) (w : World) (g : Nat) (C : Array Value) (f : Nat → Value) (hC : C.size = m) (hf : ∀ i, i < m → (f i).oneCell' = true) (h : Blk w g t C) : Sem.run Try.prog (storeCells ⟨g, 0, none⟩ (vs f m) 0) w = .ok () (w.setRow g (vs f m).toArray) := by
  have h1 : Sem.run Try.prog (storeVar t ⟨g, 0, none⟩ (.agg (vs f m).toArray)) w = .ok () (w.setRow g (vs f m).toArray) := run_storeVar_row w g _ _ _ _ h (by rw [hs, List.size_toArray, vs_length]) (by rw [hC, List.size_toArray, vs_length]) (by
    rw [Array.all_eq_true_iff_forall_mem]
    intro u hu
    exact vs_one hf u (by simpa using hu))
  cases hq : Try.prog.info? t with
  | none => simp [hq] at hs
  | some i =>
    have hs2 : i.size = m := by simpa [hq] using hs
    simpa [storeVar, sizeOf, typeInfo, hq, Value.cells, hs2, vs_length] using h1
theorem pow_shl23 {b P : Nat} (hb : b < 8) (hP : P = 2 ^ b) : (2 : Int) ^ b = (P : Int) ∧ 1 ≤ P ∧ P ≤ 128 := by
  have h1 : (2 : Nat) ^ b ≤ 2 ^ 7 := Nat.pow_le_pow_right (by decide) (by omega)
  have h2 : 0 < 2 ^ b := Nat.pow_pos (by decide)
  subst hP
  exact ⟨by push_cast; rfl, by omega, by omega⟩
/-- sums of bytes whose bits below the b-th alone are set -/
def Rec8 (B : Nat → F) (s : Nat → F) (b : Nat) : Prop := s 0 = 0 ∧ ∀ c, c < b → ∀ v, v < 2 ^ c → s (2 ^ c + v) = s v + B c
theorem Rec8.congr {B s t : Nat → F} {b : Nat} (h : Rec8 B s b) (e : ∀ v, v < 2 ^ b → t v = s v) : Rec8 B t b := by
  refine ⟨by rw [e 0 (Nat.pow_pos (by decide)), h.1], fun c hc v hv => ?_⟩
  have h1 : (2 : Nat) ^ (c + 1) ≤ 2 ^ b := Nat.pow_le_pow_right (by decide) hc
  rw [Nat.pow_succ] at h1
  rw [e _ (by omega), e _ (by omega), h.2 c hc v hv]
