/-
  THE CONTRACTS OF THE DOCUMENT'S Parts; rows of strings. Strings of at most 1000000 bytes.
-/
import Derived.Test.YtacllgglpjdobaaDoorNamC
namespace Go.Proofs.YtacllgglpjdobaaDoor
open Go.RowKit Go.Shelf
set_option maxRecDepth 1000000
set_option linter.unusedVariables false

/-- the cells of a row of strings -/
def strs (L : List (List UInt8)) : List Value := L.map fun p => .string (S p)
theorem strs_length (L : List (List UInt8)) : (strs L).length = L.length := by simp [strs]
theorem strs_snoc (L : List (List UInt8)) (p : List UInt8) : strs (L ++ [p]) = strs L ++ [.string (S p)] := by simp [strs]
theorem strs_at {L : List (List UInt8)} {k : Nat} (h : k < L.length) : (strs L)[k]? = some (.string (S (L.getD k []))) := by
  simp [strs, h, List.getD_eq_getElem?_getD]
theorem info_str : (Tryd.prog.info? 9).map (fun i => (i.zero, i.size, i.bytes)) = some (some (.string ⟨#[]⟩), 1, 16) := by kernel_rfl
/-- a row of strings that is read -/
structure SRow (w : World) (A : Option Addr) (n : Nat) (L : List (List UInt8)) : Prop where
  len : L.length = n
  top : 0 < n → ∃ b off, A = some ⟨b, off, none⟩ ∧ b < w.heap.size ∧ ∀ i, i < n → w.cell? ⟨b, off + i, none⟩ = some (.string (S (L.getD i [])))
theorem SRow.below {w w' : World} {A : Option Addr} {n : Nat} {L : List (List UInt8)} (h : SRow w A n L) (hb : Below w.heap.size w w') : SRow w' A n L :=
  ⟨h.len, fun hn => by
    obtain ⟨b, off, e, hl, hc⟩ := h.top hn
    exact ⟨b, off, e, by have := hb.size; omega, fun i hi => (hb.cell (p := ⟨b, off + i, none⟩) hl).trans (hc i hi)⟩⟩
theorem SRow.at_ {w : World} {A : Option Addr} {n : Nat} {L : List (List UInt8)} (h : SRow w A n L) {i : Nat} (hi : i < n) : ∃ b off, A = some ⟨b, off, none⟩ ∧ w.cell? ⟨b, off + i, none⟩ = some (.string (S (L.getD i []))) := by
  obtain ⟨b, off, e, hl, hc⟩ := h.top (by omega)
  exact ⟨b, off, e, hc i hi⟩
theorem SRow.of_own {w : World} {A : Option Addr} {n c base : Nat} {L : List (List UInt8)} (h : w.ownsRow base 9 1 (.slice A n c) n (strs L)) : SRow w A n L := by
  obtain ⟨hl, h⟩ := h
  rw [strs_length, Nat.mul_one] at hl
  refine ⟨hl, fun hn => ?_⟩
  rcases h with ⟨_, h0⟩ | ⟨g, cap, cur, e, hb, hg, _, _, _, ht⟩
  · omega
  · injection e with e1 e2 e3
    subst e1
    refine ⟨g, 0, rfl, (Array.getElem?_eq_some_iff.1 hg).1, fun i hi => ?_⟩
    rw [Nat.zero_add]
    have hs := strs_at (L := L) (k := i) (by omega)
    rw [← ht, Nat.mul_one, List.getElem?_take, if_pos hi, Array.getElem?_toList] at hs
    simp only [World.cell?, hg]
    exact hs
theorem mem_take_next {l : List UInt8} {fr j : Nat} (hj : j < l.length) (hf : fr ≤ j) (h : 47 ∉ (l.drop fr).take (j - fr)) (h2 : gb l j ≠ 47) : 47 ∉ (l.drop fr).take (j + 1 - fr) := by
  have e : (l.drop fr).take (j + 1 - fr) = (l.drop fr).take (j - fr) ++ [l.getD j 0] := by
    have h1 : j + 1 - fr = (j - fr) + 1 := by omega
    have h3 : j - fr < (l.drop fr).length := by rw [List.length_drop]; omega
    rw [h1, List.take_succ_eq_append_getElem h3, List.getElem_drop]
    congr 2
    have h4 : fr + (j - fr) = j := by omega
    rw [List.getD_eq_getElem?_getD, List.getElem?_eq_getElem hj]
    simp [h4]
  rw [e, List.mem_append, not_or]
  refine ⟨h, ?_⟩
  rw [List.mem_singleton]
  intro e2
  apply h2
  unfold gb
  rw [← e2]
  rfl
theorem drop_split {l : List UInt8} {fr j : Nat} (hj : j < l.length) (hf : fr ≤ j) (h2 : gb l j = 47) : l.drop fr = (l.drop fr).take (j - fr) ++ 47 :: l.drop (j + 1) := by
  have h3 : l.drop fr = (l.drop fr).take (j - fr) ++ (l.drop fr).drop (j - fr) := (List.take_append_drop _ _).symm
  have h4 : (l.drop fr).drop (j - fr) = 47 :: l.drop (j + 1) := by
    rw [List.drop_drop, show fr + (j - fr) = j by omega, List.drop_eq_getElem_cons hj]
    congr 1
    apply UInt8.toNat_inj.1
    unfold gb at h2
    rw [List.getD_eq_getElem?_getD, List.getElem?_eq_getElem hj] at h2
    exact h2
  rw [h4] at h3
  exact h3
/-- a string's part -/
theorem S_part (l : List UInt8) (a b : Nat) (hb : b ≤ l.length) : (S l).extract a b = S ((l.drop a).take (b - a)) := by
  rw [S_extract _ _ _ hb, List.drop_take]
set_option maxHeartbeats 4000000 in
theorem RParts_c (l : List UInt8) (hl : l.length ≤ 1000000) (w : World) :
    Calls Tryd.prog 54 #[.string (S l)] w fun e w' => ∃ g n c, e = .returned (.slice (some ⟨g, 0, none⟩) n c) ∧ w'.ownsRow w.heap.size 9 1 (.slice (some ⟨g, 0, none⟩) n c) n (strs (spl l)) ∧ Below w.heap.size w w' := by
  obtain ⟨i0, hi, hz0, hz1, hz2⟩ := info_parts info_str
  have hsz : (S l).size = l.length := S_size l
  have HBY := Lib.hid (byte_S l)
  have HPT := Lib.hid (fun a b hb => S_part l a b hb)
  generalize S l = s at *
  obtain ⟨L, hL⟩ : ∃ L, L = l.length := ⟨_, rfl⟩
  rw [← hL] at hl hsz
  have HL := Lib.hid hL
  clear hL
  go_enter Tryd.func54, Tryd.ntmps54
  go_wp2
  go_loopw [3, 4, 5] (fun o f i wr => ∃ (j fr c g k : Nat) (P : List (List UInt8)), i = .int .i64 (j : Int) ∧ f = .int .i64 (fr : Int) ∧ o = .slice (some ⟨g, 0, none⟩) k c ∧ j ≤ L + 1 ∧ k ≤ j ∧
      Hid ((j ≤ L ∧ fr ≤ j ∧ P ++ spl (l.drop fr) = spl l ∧ 47 ∉ (l.drop fr).take (j - fr)) ∨ (j = L + 1 ∧ P = spl l)) ∧ wr.ownsRow w.heap.size 9 1 (.slice (some ⟨g, 0, none⟩) k c) k (strs P) ∧ Hid (Below w.heap.size w wr)) (fun _ _ i _ => L + 2 - (intOf i).toNat)
  case atStart => exact ⟨0, 0, 0, _, 0, [], rfl, rfl, rfl, by omega, by omega, .inl ⟨by omega, by omega, rfl, by simp⟩, World.ownsRow_made (e := 9) (size := 1) w #[] 0 (Nat.le_refl _) (Nat.zero_le _) rfl, (Below.refl _ _).alloc (Nat.le_refl _) _⟩
  case round =>
    obtain ⟨j, fr, c, g, k, P, rfl, rfl, rfl, hj, hk, hst, hown, hbel⟩ := hrel
    by_cases hle : j ≤ L
    · have hlei : (j : Int) ≤ (L : Int) := by omega
      have hst2 : Hid (fr ≤ j ∧ P ++ spl (l.drop fr) = spl l ∧ 47 ∉ (l.drop fr).take (j - fr)) := by
        rcases hst.out with ⟨_, h⟩ | ⟨h, _⟩
        · exact h
        · omega
      have hfj := hst2.out.1
      have hws := hbel.out.size
      by_cases hend : j = L ∨ (j < L ∧ gb l j = 47)
      · -- a part ends here
        have hex : s.extract fr j = S ((l.drop fr).take (j - fr)) := HPT.out fr j (by have := HL.out; omega)
        obtain ⟨p, hp⟩ : ∃ p, p = (l.drop fr).take (j - fr) := ⟨_, rfl⟩
        rw [← hp] at hex
        have hnx : Hid ((j + 1 ≤ L ∧ j + 1 ≤ j + 1 ∧ (P ++ [p]) ++ spl (l.drop (j + 1)) = spl l ∧ 47 ∉ (l.drop (j + 1)).take (j + 1 - (j + 1))) ∨ (j + 1 = L + 1 ∧ P ++ [p] = spl l)) := by
          obtain ⟨_, h1, h2⟩ := hst2.out
          rcases hend with h3 | ⟨h3, h4⟩
          · right
            refine ⟨by omega, ?_⟩
            rw [← h1]
            have e : l.drop fr = p := by rw [hp, List.take_of_length_le (by rw [List.length_drop, ← HL.out]; omega)]
            rw [e, spl_one (by rw [hp]; exact h2)]
          · left
            refine ⟨by omega, Nat.le_refl _, ?_, by simp⟩
            rw [← h1]
            have e := drop_split (l := l) (by rw [← HL.out]; exact h3) hfj h4
            rw [← hp] at e h2
            rw [e, spl_app, spl_one h2]
            simp
        have hPn : Hid (strs (P ++ [p]) = strs P ++ [.string (S p)]) := strs_snoc _ _
        generalize S p = pv at *
        have HP := Lib.hid hp
        clear hp hst
        have hle2 : j ≤ s.size := by rw [hsz]; exact hle
        rcases hend with h3 | ⟨h3, h4⟩
        · have hb : ((j : Int) == (L : Int)) = true := by rw [beq_iff_eq]; omega
          clear h3
          go_wp2_with (at_builtin; refine wpList_append_lies _ rfl (.tmp 23) (.tmp 28) 101 rfl w.heap.size 9 i0 (.string ⟨#[]⟩) 1 16 Tryd.underlying101 hi hz0 hz1 hz2 rfl (by decide) (.slice (some ⟨g, 0, none⟩) k c) k (strs P) rfl (hown.alloc _) ⟨wr.heap.size, 0, none⟩ 1 1 [.string pv] rfl rfl (one_cell wr _ _) (by intro u hu; simp at hu; subst hu; rfl) (by omega) (by unfold maxLen; omega) (by omega) (by simp; omega) (wr.heap.size + 1) (by simp) ?_; intro g' cv' w3 hown' hgrow hat hlt')
          go_wp2
          go_roundw
          case rel => exact ⟨j + 1, j + 1, cv', g', k + 1, P ++ [p], by go_num, by go_num, rfl, by omega, by omega, hnx, by rw [hPn.out]; exact hown', (hbel.out.alloc hbel.out.size _).grown hgrow (by simp; omega) (fun g hg => (hown.lt g hg).1)⟩
          case measure => simp [intOf]; omega
        · have hb : ((j : Int) == (L : Int)) = false := by rw [beq_eq_false_iff_ne]; omega
          have hg4 : ∀ h : j < s.size, (s[j]'h).toNat = 47 := fun h => by rw [HBY.out j h, h4]
          have hjs : j < s.size := by omega
          clear h4
          go_wp2_with (at_builtin; refine wpList_append_lies _ rfl (.tmp 23) (.tmp 28) 101 rfl w.heap.size 9 i0 (.string ⟨#[]⟩) 1 16 Tryd.underlying101 hi hz0 hz1 hz2 rfl (by decide) (.slice (some ⟨g, 0, none⟩) k c) k (strs P) rfl (hown.alloc _) ⟨wr.heap.size, 0, none⟩ 1 1 [.string pv] rfl rfl (one_cell wr _ _) (by intro u hu; simp at hu; subst hu; rfl) (by omega) (by unfold maxLen; omega) (by omega) (by simp; omega) (wr.heap.size + 1) (by simp) ?_; intro g' cv' w3 hown' hgrow hat hlt')
          go_wp2
          go_roundw
          case rel => exact ⟨j + 1, j + 1, cv', g', k + 1, P ++ [p], by go_num, by go_num, rfl, by omega, by omega, hnx, by rw [hPn.out]; exact hown', (hbel.out.alloc hbel.out.size _).grown hgrow (by simp; omega) (fun g hg => (hown.lt g hg).1)⟩
          case measure => simp [intOf]; omega
      · have hlt : j < L := by
          rcases Nat.lt_or_ge j L with h | h
          · exact h
          · exact absurd (.inl (by omega)) hend
        have h47 : gb l j ≠ 47 := fun e => hend (.inr ⟨hlt, e⟩)
        have hb : ((j : Int) == (L : Int)) = false := by rw [beq_eq_false_iff_ne]; omega
        have hnx : Hid ((j + 1 ≤ L ∧ fr ≤ j + 1 ∧ P ++ spl (l.drop fr) = spl l ∧ 47 ∉ (l.drop fr).take (j + 1 - fr)) ∨ (j + 1 = L + 1 ∧ P = spl l)) :=
          .inl ⟨by omega, by omega, hst2.out.2.1, mem_take_next (by rw [← HL.out]; exact hlt) hfj hst2.out.2.2 h47⟩
        obtain ⟨x, hx⟩ : ∃ x, x = gb l j := ⟨_, rfl⟩
        have hg4 : ∀ h : j < s.size, (s[j]'h).toNat = x := fun h => by rw [HBY.out j h, hx]
        rw [← hx] at h47
        have hx47 : ((x : Int) == 47) = false := by rw [beq_eq_false_iff_ne]; omega
        have hjs : j < s.size := by omega
        clear hx hend h47 hst
        go_wp2
        go_roundw
        case rel => exact ⟨j + 1, fr, c, g, k, P, by go_num, rfl, rfl, by omega, by omega, hnx, hown, hbel.out⟩
        case measure => simp [intOf]; omega
    · obtain rfl : j = L + 1 := by omega
      have hlei : ¬ ((L + 1 : Nat) : Int) ≤ (L : Int) := by omega
      have hfin : Hid (P = spl l) := by
        rcases hst.out with ⟨h, _⟩ | ⟨_, h⟩
        · omega
        · exact h
      go_wp2
      go_ret
      rw [hfin.out] at hown
      exact ⟨g, k, c, rfl, hown, hbel.out⟩
end Go.Proofs.YtacllgglpjdobaaDoor
