/-
  THE CONTRACTS OF name's Fold, the document's Fold. Strings of at most 1000000 bytes.
-/
import Derived.Test.YtcodgamhgfafnaaDoorNamI
import Derived.Laws.IdiomStrings
import Derived.Deep.AppendLies
namespace Go.Proofs.YtcodgamhgfafnaaDoor
open Go.RowKit Go.Shelf
set_option maxRecDepth 1000000
set_option linter.unusedVariables false

def fN (x : Nat) : Nat := if 65 ≤ x ∧ x ≤ 90 then x + 32 else x
theorem gb_fol2 (l : List UInt8) (k : Nat) : gb (fol l) k = fN (gb l k) := gb_fol l k
/-- the first j with small letters -/
def fC (l : List UInt8) (j k : Nat) : Nat := if k < j then fN (gb l k) else gb l k
theorem fC_next (l : List UInt8) (j k : Nat) (h : k ≠ j) : fC l (j + 1) k = fC l j k := by
  unfold fC
  by_cases h1 : k < j
  · rw [if_pos h1, if_pos (by omega)]
  · rw [if_neg h1, if_neg (by omega)]
theorem fC_here (l : List UInt8) (j : Nat) : fC l j j = gb l j ∧ fC l (j + 1) j = fN (gb l j) := ⟨if_neg (by omega), if_pos (by omega)⟩
structure FRow (w : World) (g L : Nat) (l : List UInt8) (j : Nat) : Prop where
  cells : ∀ k, k < L → w.cell? ⟨g, k, none⟩ = some (.int .u8 (fC l j k : Nat))
  frozen : ∀ k, k < L → w.frozen? ⟨g, k, none⟩ = false
theorem FRow.set {w : World} {g L j : Nat} {l : List UInt8} (h : FRow w g L l j) (hj : j < L) {v : Nat} (hv : v = fN (gb l j)) : FRow (w.setCell ⟨g, j, none⟩ (.int .u8 (v : Nat))) g L l (j + 1) :=
  ⟨fun k hk => by
    by_cases e : k = j
    · subst e
      rw [(fC_here l k).2, ← hv]
      exact World.cell?_setCell_same w _ _ (h.cells k hk)
    · rw [fC_next l j k e]
      exact (World.cell?_setCell_other w _ _ _ (fun e2 => e (by injection e2 with _ e3; exact e3.symm))).trans (h.cells k hk), fun k hk => by rw [World.frozen?_setCell]; exact h.frozen k hk⟩
theorem FRow.skip {w : World} {g L j : Nat} {l : List UInt8} (h : FRow w g L l j) (hj : j < L) (hv : fN (gb l j) = gb l j) : FRow w g L l (j + 1) :=
  ⟨fun k hk => by
    by_cases e : k = j
    · subst e
      rw [(fC_here l k).2, hv, ← (fC_here l k).1]
      exact h.cells k hk
    · rw [fC_next l j k e]
      exact h.cells k hk, h.frozen⟩
theorem FRow.made (w : World) (l : List UInt8) (cap : Nat) (t : TypeId) : FRow (w.alloc (.cells (bytesRow (S l) cap) t ((bytesRow (S l) cap).size, (bytesRow (S l) cap).size + 1))) w.heap.size l.length l 0 := by
  have hsz : l.length ≤ (bytesRow (S l) cap).size := by simp [bytesRow, S]
  refine ⟨fun k hk => ?_, fun k hk => ?_⟩
  · rw [World.cell?_alloc_mark]
    have e : fC l 0 k = gb l k := if_neg (by omega)
    rw [e]
    unfold bytesRow S gb
    simp [hk, Array.getElem?_append]
  · have hh : (w.alloc (.cells (bytesRow (S l) cap) t ((bytesRow (S l) cap).size, (bytesRow (S l) cap).size + 1))).heap[w.heap.size]? = some (.cells (bytesRow (S l) cap) t ((bytesRow (S l) cap).size, (bytesRow (S l) cap).size + 1)) := World.alloc_heap_new w _
    unfold World.frozen?
    simp only [hh]
    simp
    omega
set_option maxHeartbeats 4000000 in
theorem Fold_c (l : List UInt8) (hl : l.length ≤ 1000000) (w : World) :
    Calls Tryd.prog 16 #[.string (S l)] w fun e w' => e = .returned (.string (S (fol l))) ∧ Below w.heap.size w w' := by
  have hcv := run_bytes_of_string (P := Tryd.prog) w 9 41 5 (S l) Tryd.underlying9 Tryd.underlying41 Tryd.underlying5
  rw [S_size] at hcv
  generalize grownCap w l.length 0 5 = cap at *
  have hF := FRow.made w.drew l cap 5
  have hB : Below w.heap.size w (w.drew.alloc (.cells (bytesRow (S l) cap) 5 ((bytesRow (S l) cap).size, (bytesRow (S l) cap).size + 1))) := (below_drewN (Below.refl w.heap.size w) 1).alloc (Nat.le_refl _) _
  obtain ⟨W1, hW1⟩ : ∃ W1, w.drew.alloc (.cells (bytesRow (S l) cap) 5 ((bytesRow (S l) cap).size, (bytesRow (S l) cap).size + 1)) = W1 := ⟨_, rfl⟩
  have hF2 : FRow W1 w.heap.size l.length l 0 := by rw [← hW1]; exact hF
  rw [hW1] at hcv hB
  have HF := Lib.hid hF2
  have HB := Lib.hid hB
  have HBACK : Hid (∀ W : World, FRow W w.heap.size l.length l l.length → (convert 41 9 (.slice (some ⟨w.heap.size, 0, none⟩) l.length cap)).run Tryd.prog W = .ok (.string (S (fol l))) W) := fun W h => by
    have := run_convert_bytes_back (P := Tryd.prog) W 41 9 5 ⟨w.heap.size, 0, none⟩ cap (fol l) Tryd.underlying41 Tryd.underlying5 Tryd.underlying9 (fun j hj => by
      rw [fol_length] at hj
      have h1 := h.cells j hj
      have e : fC l l.length j = gb (fol l) j := by rw [gb_fol2]; exact if_pos hj
      rw [e] at h1
      have e2 : (⟨w.heap.size, 0, none⟩ : Addr).add j = ⟨w.heap.size, j, none⟩ := by
        unfold Addr.add
        by_cases hj0 : j = 0
        · subst hj0; rfl
        · simp [hj0]
      rw [e2, h1]
      congr 2
      unfold gb
      rw [List.getD_eq_getElem?_getD, List.getElem?_eq_getElem (by rw [fol_length]; exact hj)]
      rfl)
    rw [fol_length] at this
    exact this
  generalize S l = s at *
  obtain ⟨L, hL⟩ : ∃ L, L = l.length := ⟨_, rfl⟩
  rw [← hL] at hl hcv HF HBACK
  clear hF hF2 hB hW1 hL
  generalize w.heap.size = g at *
  go_enter Tryd.func16, Tryd.ntmps16
  go_wp2
  go_loopw [10] (fun i wr => ∃ j : Nat, i = .int .i64 (j : Int) ∧ j ≤ L ∧ Hid (FRow wr g L l j) ∧ Hid (Below g w wr)) (fun i _ => L - (intOf i).toNat)
  case atStart => exact ⟨0, rfl, by omega, HF.out, HB.out⟩
  case round =>
    obtain ⟨j, rfl, hjl, hf, hb⟩ := hrel
    by_cases hlt : j < L
    · have hlti : (j : Int) < (L : Int) := by omega
      have hc := hf.out.cells j hlt
      have hz := hf.out.frozen j hlt
      rw [(fC_here l j).1] at hc
      have hx := gb_lt l j
      have HS : Hid (∀ v, v = fN (gb l j) → FRow (wr.setCell ⟨g, j, none⟩ (.int .u8 (v : Nat))) g L l (j + 1)) := fun v hv => hf.out.set hlt hv
      have HK : Hid (fN (gb l j) = gb l j → FRow wr g L l (j + 1)) := fun h => hf.out.skip hlt h
      generalize gb l j = x at *
      by_cases h1 : 65 ≤ x
      · by_cases h2 : x ≤ 90
        · have hv : Hid (x + 32 = fN x) := (if_pos ⟨h1, h2⟩).symm
          have HN := Lib.hid (HS.out (x + 32) hv.out)
          have HBN : Hid (Below g w (wr.setCell ⟨g, j, none⟩ (.int .u8 ((x + 32 : Nat) : Int)))) := hb.out.setCell (p := ⟨g, j, none⟩) (Nat.le_refl _) _
          clear HS HK
          go_wp2
          have e5 : ((x : Int) - 65 + 97) = ((x + 32 : Nat) : Int) := by omega
          rw [e5]
          go_roundw
          case rel => exact ⟨j + 1, by go_num, by omega, HN, HBN⟩
          case measure => simp [intOf]; omega
        · have HN := Lib.hid (HK.out (if_neg (by omega)))
          have h3 : ¬ x ≤ 90 := h2
          clear HS HK
          go_wp2
          go_roundw
          case rel => exact ⟨j + 1, by go_num, by omega, HN, hb.out⟩
          case measure => simp [intOf]; omega
      · have HN := Lib.hid (HK.out (if_neg (by omega)))
        clear HS HK
        go_wp2
        go_roundw
        case rel => exact ⟨j + 1, by go_num, by omega, HN, hb.out⟩
        case measure => simp [intOf]; omega
    · obtain rfl : j = L := by omega
      have hlti : ¬ (j : Int) < (j : Int) := by omega
      have hbk := HBACK.out wr hf.out
      go_wp2
      go_ret
      exact ⟨rfl, hb.out⟩
end Go.Proofs.YtcodgamhgfafnaaDoor
