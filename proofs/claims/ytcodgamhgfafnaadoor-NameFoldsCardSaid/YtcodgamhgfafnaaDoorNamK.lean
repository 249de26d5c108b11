/-
  THE CONTRACT OF the document's Fold. Strings of at most 1000000 bytes.
-/
import Derived.Test.YtcodgamhgfafnaaDoorNamJ
namespace Go.Proofs.YtcodgamhgfafnaaDoor
open Go.RowKit Go.Shelf
set_option maxRecDepth 1000000
set_option linter.unusedVariables false

/-- the first j, with small letters, as cells -/
def fcl (l : List UInt8) (j : Nat) : List Value := (List.range j).map fun k => .int .u8 (fN (gb l k) : Nat)
theorem fcl_length (l : List UInt8) (j : Nat) : (fcl l j).length = j := by simp [fcl]
theorem fcl_succ (l : List UInt8) (j : Nat) : fcl l (j + 1) = fcl l j ++ [.int .u8 (fN (gb l j) : Nat)] := by simp [fcl, List.range_succ]
theorem fcl_at (l : List UInt8) {j k : Nat} (h : k < j) : (fcl l j)[k]? = some (.int .u8 (fN (gb l k) : Nat)) := by simp [fcl, h]
set_option maxHeartbeats 4000000 in
theorem RFold_c (l : List UInt8) (hl : l.length ≤ 1000000) (w : World) :
    Calls Tryd.prog 17 #[.string (S l)] w fun e w' => e = .returned (.string (S (fol l))) ∧ Below w.heap.size w w' := by
  obtain ⟨i0, hi, hz0, hz1, hz2⟩ := info_parts info_byte16
  have hsz : (S l).size = l.length := S_size l
  have HBY := Lib.hid (byte_S l)
  have HBACK : Hid (∀ (W : World) (g c : Nat), W.ownsRow w.heap.size 5 1 (.slice (some ⟨g, 0, none⟩) l.length c) l.length (fcl l l.length) → (convert 41 9 (.slice (some ⟨g, 0, none⟩) l.length c)).run Tryd.prog W = .ok (.string (S (fol l))) W) := fun W g c h => by
    have := run_convert_bytes_back (P := Tryd.prog) W 41 9 5 ⟨g, 0, none⟩ c (fol l) Tryd.underlying41 Tryd.underlying5 Tryd.underlying9 (fun j hj => by
      rw [fol_length] at hj
      have h1 := h.cellAt j (by omega)
      rw [fcl_at l hj, ← gb_fol2] at h1
      have e2 : (⟨g, 0, none⟩ : Addr).add j = ⟨g, j, none⟩ := by
        unfold Addr.add
        by_cases hj0 : j = 0
        · subst hj0; rfl
        · simp [hj0]
      rw [e2, h1]
      congr 2
      unfold gb
      rw [List.getD_eq_getElem?_getD, List.getElem?_eq_getElem (by rw [fol_length]; exact hj)]
      rfl)
    rw [fol_length] at this
    exact this
  generalize S l = s at *
  obtain ⟨L, hL⟩ : ∃ L, L = l.length := ⟨_, rfl⟩
  rw [← hL] at hl hsz HBACK
  clear hL
  go_enter Tryd.func17, Tryd.ntmps17
  go_wp2
  go_loopw [3, 4, 5] (fun o i _ wr => ∃ (j c g : Nat), i = .int .i64 (j : Int) ∧ o = .slice (some ⟨g, 0, none⟩) j c ∧ j ≤ L ∧ wr.ownsRow w.heap.size 5 1 (.slice (some ⟨g, 0, none⟩) j c) j (fcl l j) ∧ Hid (Below w.heap.size w wr)) (fun _ i _ _ => L - (intOf i).toNat)
  case atStart => exact ⟨0, 0, _, rfl, rfl, by omega, World.ownsRow_made (e := 5) (size := 1) w #[] 0 (Nat.le_refl _) (Nat.zero_le _) rfl, (Below.refl _ _).alloc (Nat.le_refl _) _⟩
  case round =>
    obtain ⟨j, c, g, rfl, rfl, hjl, hown, hbel⟩ := hrel
    have hws := hbel.out.size
    by_cases hlt : j < L
    · have hlti : (j : Int) < (L : Int) := by omega
      have hx := gb_lt l j
      have hjs : j < s.size := by omega
      have hg4 : ∀ h : j < s.size, (s[j]'h).toNat = gb l j := HBY.out j
      have HN := Lib.hid (fcl_succ l j)
      generalize gb l j = x at *
      have HY : Hid (∀ y, y = fN x → fcl l (j + 1) = fcl l j ++ [.int .u8 (y : Nat)]) := fun y hy => by rw [hy]; exact HN.out
      by_cases h1 : 65 ≤ x ∧ x ≤ 90
      · have hv : Hid (fcl l (j + 1) = fcl l j ++ [.int .u8 ((x : Int) + 32)]) := HY.out (x + 32) (if_pos h1).symm
        obtain ⟨h1, h2⟩ := h1
        go_wp2_with (at_builtin; refine wpList_append_lies _ rfl (.tmp 24) (.tmp 26) 41 rfl w.heap.size 5 i0 (.int .u8 0) 1 1 Tryd.underlying41 hi hz0 hz1 hz2 rfl (by decide) (.slice (some ⟨g, 0, none⟩) j c) j (fcl l j) rfl (hown.alloc _) ⟨wr.heap.size, 0, none⟩ 1 1 [.int .u8 ((x : Int) + 32)] rfl rfl (one_cell wr _ _) (by intro u hu; simp at hu; subst hu; rfl) (by omega) (by unfold maxLen; omega) (by omega) (by simp; omega) (wr.heap.size + 1) (by simp) ?_; intro g' cv' w3 hown' hgrow hat hlt')
        go_wp2
        go_roundw
        case rel => exact ⟨j + 1, cv', g', by go_num, rfl, by omega, by rw [hv.out]; exact hown', (hbel.out.alloc hbel.out.size _).grown hgrow (by simp; omega) (fun g hg => (hown.lt g hg).1)⟩
        case measure => simp [intOf]; omega
      · have hv := Lib.hid (HY.out x (if_neg h1).symm)
        by_cases h2 : 65 ≤ x
        · have h3 : ¬ x ≤ 90 := by omega
          clear h1
          go_wp2_with (at_builtin; refine wpList_append_lies _ rfl (.tmp 24) (.tmp 26) 41 rfl w.heap.size 5 i0 (.int .u8 0) 1 1 Tryd.underlying41 hi hz0 hz1 hz2 rfl (by decide) (.slice (some ⟨g, 0, none⟩) j c) j (fcl l j) rfl (hown.alloc _) ⟨wr.heap.size, 0, none⟩ 1 1 [.int .u8 (x : Int)] rfl rfl (one_cell wr _ _) (by intro u hu; simp at hu; subst hu; rfl) (by omega) (by unfold maxLen; omega) (by omega) (by simp; omega) (wr.heap.size + 1) (by simp) ?_; intro g' cv' w3 hown' hgrow hat hlt')
          go_wp2
          go_roundw
          case rel => exact ⟨j + 1, cv', g', by go_num, rfl, by omega, by rw [hv.out]; exact hown', (hbel.out.alloc hbel.out.size _).grown hgrow (by simp; omega) (fun g hg => (hown.lt g hg).1)⟩
          case measure => simp [intOf]; omega
        · clear h1
          go_wp2_with (at_builtin; refine wpList_append_lies _ rfl (.tmp 24) (.tmp 26) 41 rfl w.heap.size 5 i0 (.int .u8 0) 1 1 Tryd.underlying41 hi hz0 hz1 hz2 rfl (by decide) (.slice (some ⟨g, 0, none⟩) j c) j (fcl l j) rfl (hown.alloc _) ⟨wr.heap.size, 0, none⟩ 1 1 [.int .u8 (x : Int)] rfl rfl (one_cell wr _ _) (by intro u hu; simp at hu; subst hu; rfl) (by omega) (by unfold maxLen; omega) (by omega) (by simp; omega) (wr.heap.size + 1) (by simp) ?_; intro g' cv' w3 hown' hgrow hat hlt')
          go_wp2
          go_roundw
          case rel => exact ⟨j + 1, cv', g', by go_num, rfl, by omega, by rw [hv.out]; exact hown', (hbel.out.alloc hbel.out.size _).grown hgrow (by simp; omega) (fun g hg => (hown.lt g hg).1)⟩
          case measure => simp [intOf]; omega
    · obtain rfl : j = L := by omega
      have hlti : ¬ (j : Int) < (j : Int) := by omega
      have hbk := HBACK.out wr g c hown
      go_wp2
      go_ret
      exact ⟨rfl, hbel.out⟩
end Go.Proofs.YtcodgamhgfafnaaDoor
