/-
  STRIPES: a volume's column: the program's. No conditions.
-/
import Derived.Test.YtbmkcnlcffnjgaaSra
import Derived.Test.YtbmkcnlcffnjgaaBits
import Derived.Laws.CopyOwn
namespace Go.Proofs.Ytbmkcnlcffnjgaa
open Go.RowKit
set_option maxRecDepth 100000
set_option linter.unusedVariables false

/-- a volume's column -/
def col23 (b : List F) (S : Nat) : List F := putL b.length 8 ++ b ++ List.replicate (S - b.length) 0
theorem col23_length {b : List F} {S : Nat} (h : b.length ≤ S) : (col23 b S).length = 8 + S := by
  simp [col23, putL_length]; omega
theorem cells_own23 {w : World} {base n g : Nat} {e : TypeId} {xs : List Value} (h : w.heap[g]? = some (.cells xs.toArray e (0, 0))) (hb : base ≤ g) (hl : xs.length = n) (hn : n ≤ maxLen) : w.ownsRow base e 1 (.slice (some ⟨g, 0, none⟩) n n) n xs := by
  refine ⟨by rw [hl, Nat.mul_one], .inr ⟨g, n, xs.toArray, rfl, hb, h, Nat.le_refl _, hn, by simp [hl], by simp [← hl]⟩⟩
theorem own_cells23 {w : World} {base n : Nat} {g cap : Nat} {e : TypeId} {xs : List Value} (h : w.ownsRow base e 1 (.slice (some ⟨g, 0, none⟩) n cap) n xs) (hc : n = cap) : w.heap[g]? = some (.cells xs.toArray e (0, 0)) := by
  rcases h.2 with ⟨hv, _⟩ | ⟨g', cap', cur, hv, _, hg, _, _, hsz, ht⟩
  · cases hv
  · injection hv with hv _ hcap
    injection hv with hv
    injection hv with hv _ _
    subst hv hcap
    rw [hg, ← ht, List.take_of_length_le (by simp; omega)]
theorem own_ltc23 {w : World} {base n g c : Nat} {e : TypeId} {xs : List Value} (h : w.ownsRow base e 1 (.slice (some ⟨g, 0, none⟩) n c) n xs) : base ≤ g ∧ g < w.heap.size := h.lt g rfl
theorem size_u23 : (Try.prog.info? 5).map (·.size) = some 1 := by kernel_rfl
theorem made23 (n : Nat) : (madeCells (Value.int .u8 0).cells (n * 1)).toList = cs (List.replicate n 0) := by
  have e0 : madeCells (Value.int .u8 0).cells (n * 1) = madeCells #[.int .u8 0] n := by rw [Nat.mul_one]; rfl
  rw [e0, toList_madeCells_one]
  unfold cs
  rw [List.map_replicate]
  rfl
theorem splice_cs {l q : List F} (off : Nat) : splice (cs l) off (cs q) = cs (l.take off ++ (q ++ l.drop (off + q.length))) := by
  unfold splice cs
  rw [List.length_map, List.map_append, List.map_append, List.map_take, List.map_drop]
theorem col23_made {b : List F} {S : Nat} (h : b.length ≤ S) : splice (splice (cs (List.replicate (8 + S) 0)) 0 (cs (putL b.length 8))) 8 (cs b) = cs (col23 b S) := by
  have e1 : (List.replicate (8 + S) (0 : F)).take 0 ++ (putL b.length 8 ++ (List.replicate (8 + S) (0 : F)).drop (0 + (putL b.length 8).length)) = putL b.length 8 ++ List.replicate S (0 : F) := by
    rw [List.take_zero, List.nil_append, putL_length, List.drop_replicate]
    simp
  rw [splice_cs, e1, splice_cs]
  have e2 : (putL b.length 8 ++ List.replicate S (0 : F)).take 8 = putL b.length 8 := by
    rw [List.take_append_of_le_length (by rw [putL_length]; exact Nat.le_refl _), List.take_of_length_le (by rw [putL_length]; exact Nat.le_refl _)]
  have e3 : (putL b.length 8 ++ List.replicate S (0 : F)).drop (8 + b.length) = List.replicate (S - b.length) 0 := by
    rw [List.drop_append, putL_length, List.drop_of_length_le (by rw [putL_length]; omega), List.nil_append, List.drop_replicate]
    congr 1
    omega
  rw [e2, e3]
  unfold col23
  rw [List.append_assoc]
/-- what Column answers -/
def CoR (w : World) (b : List F) (s : Int) (e : Ending) (w' : World) : Prop :=
  (¬ (5 ≤ s ∧ s ≤ 16777216) ∧ e = .returned (.tuple #[.slice none 0 0, .int .i64 1]) ∧ Below w.heap.size w w') ∨
  (5 ≤ s ∧ s ≤ 16777216 ∧ s < b.length ∧ e = .returned (.tuple #[.slice none 0 0, .int .i64 2]) ∧ Below w.heap.size w w') ∨
  (∃ S g : Nat, s = S ∧ 5 ≤ S ∧ S ≤ 16777216 ∧ b.length ≤ S ∧ e = .returned (.tuple #[.slice (some ⟨g, 0, none⟩) (8 + S) (8 + S), .int .i64 0]) ∧ w'.ownsRow w.heap.size 5 1 (.slice (some ⟨g, 0, none⟩) (8 + S) (8 + S)) (8 + S) (cs (col23 b S)) ∧ Below w.heap.size w w')
set_option maxHeartbeats 2000000 in
theorem Column_c {w : World} {A : Option Addr} {n c : Nat} {b : List F} (h : RowIn w A n c b) (s : Int) (hw : (Lit.int .i64 s).wf = true) :
    Calls Try.prog 8 #[.slice A n c, .int .i64 s] w fun e w' => CoR w b s e w' := by
  have hlen := h.row.len
  have hnm := h.row.max
  have HW := Lib.hid hw
  by_cases h1 : 5 ≤ s ∧ s ≤ 16777216
  · by_cases h2 : s < n
    · go_enter Try.func8, Try.ntmps8
      go_wp2_with fail
      refine (rightSize_c _ _).mono ?_
      rintro e _ ⟨rfl, rfl⟩
      rw [decide_eq_true h1]
      go_wp2
      go_ret2
      exact .inr (.inl ⟨h1.1, h1.2, by omega, rfl, Below.refl _ _⟩)
    · obtain ⟨S, rfl⟩ : ∃ S : Nat, s = (S : Int) := ⟨s.toNat, by omega⟩
      obtain ⟨i0, hi, hz0, hz1, hz2⟩ := info_parts info_u8
      have hS : S ≤ 16777216 := by omega
      have hnS : n ≤ S := by omega
      have HE : Hid (∀ (e : Ending) (w' : World) (g : Nat), e = .returned (.tuple #[.slice (some ⟨g, 0, none⟩) (8 + S) (8 + S), .int .i64 0]) → w'.ownsRow w.heap.size 5 1 (.slice (some ⟨g, 0, none⟩) (8 + S) (8 + S)) (8 + S) (cs (col23 b S)) → Below w.heap.size w w' → CoR w b S e w') := fun e w' g a1 a2 a3 => .inr (.inr ⟨S, g, rfl, by omega, by omega, by omega, a1, a2, a3⟩)
      have HH := Lib.hid h
      have HL := Lib.hid hlen
      have h0S : ¬ S = 0 := by omega
      have hlw : (8 : Int) + (S : Int) ≤ 16777224 := by omega
      clear h hlen
      go_enter Try.func8, Try.ntmps8
      go_wp2_with fail
      refine (rightSize_c _ _).mono ?_
      rintro e _ ⟨rfl, rfl⟩
      rw [decide_eq_true h1]
      clear h1
      go_wp2_with (first
        | (at_make
           refine wpList_make_full _ rfl _ _ 22 rfl w.heap.size 5 i0 (.int .u8 0) 1 Try.underlying22 hi hz0 hz1 _ _ _ _ (8 + S) rfl rfl rfl rfl (by rw [hz2]; omega) (by unfold maxLen; omega) (Nat.le_refl _) ?_
           intro w1 hown1 hgrow1
           have HB1 : Hid (Below w.heap.size w w1) := (Below.refl _ w).grown hgrow1 (Nat.le_refl _) (fun k hk => by cases hk)
           rw [made23] at hown1
           have HO1 := Lib.hid hown1
           clear hown1 hgrow1)
        | fail)
      refine (Put_c n (by unfold two64; omega) 8 w1).mono ?_
      rintro e w2 ⟨g2, rfl, hown2, hb2⟩
      rw [show heldN 8 8 = 8 by decide] at *
      have HB2 := Lib.hid (HB1.out.trans (hb2.mono HB1.out.size))
      have HC2 : Hid (w2.heap[w.heap.size]? = some (.cells (cs (List.replicate (8 + S) 0)).toArray 5 (0, 0))) := own_cells23 (own_below HO1.out hb2) rfl
      have HP2 := Lib.hid (Row.of_own hown2).cells
      have hw12 : w.heap.size < w1.heap.size := (own_ltc23 HO1.out).2
      have HLT := Lib.hid hw12
      clear hown2 hb2 hw12 HO1 HB1
      have m1 : ¬ (8 + S : Nat) < 8 := by omega
      go_wp2_with (first
        | (refine wpList_copy_splice rfl (.tmp 17) (.tmp 21) 22 22 rfl 5 Try.underlying22 size_u23 (some ⟨w.heap.size, 0, none⟩) (some ⟨g2, 0, none⟩) (8 + S) (8 + S) 8 8 rfl rfl w.heap.size 0 (cs (List.replicate (8 + S) 0)) 5 HC2.out (cs (putL n 8)) (by rw [cs_length, putL_length]; exact (Nat.min_eq_left (by omega)).symm) (fun _ => ⟨rfl, _, rfl, HP2.out⟩) (by rw [cs_length, putL_length, cs_length, List.length_replicate]; omega) (cs_one _) w.heap.size w HB2.out (Nat.le_refl _) ?_
           intro w3 hc3 hb3
           have HC3 := Lib.hid hc3.out
           have HB3 := Lib.hid hb3
           have HRB := Lib.hid (HH.out.below hb3)
           clear hc3 hb3 HC2 HP2)
        | (refine wpList_copy_splice rfl (.tmp 24) (.tmp 25) 22 22 rfl 5 Try.underlying22 size_u23 (some ⟨w.heap.size, 8, none⟩) A S S n c rfl rfl w.heap.size 8 (splice (cs (List.replicate (8 + S) 0)) 0 (cs (putL n 8))) 5 HC3.out (cs b) (by rw [cs_length, HL.out]; exact (Nat.min_eq_left (by omega)).symm) (fun h0 => by
             rw [cs_length, HL.out] at h0
             obtain ⟨ob, oo, oe, _, _⟩ := HRB.out.row.at_ h0
             have hr9 := HRB.out.row
             subst oe
             exact ⟨rfl, _, rfl, hr9.cells⟩) (by rw [length_splice _ _ _ (by rw [cs_length, putL_length, cs_length, List.length_replicate]; omega), cs_length, cs_length, List.length_replicate, HL.out]; omega) (cs_one _) w.heap.size w HB3.out (Nat.le_refl _) ?_
           intro w4 hc4 hb4
           have HC4 := Lib.hid hc4.out
           have HB4 := Lib.hid hb4
           clear hc4 hb4 HC3))
      go_ret2
      refine HE.out _ _ w.heap.size rfl ?_ HB4.out
      have h9 := HC4.out
      have h8 := HL.out
      subst h8
      rw [col23_made (by omega)] at h9
      exact cells_own23 h9 (Nat.le_refl _) (by rw [cs_length, col23_length (by omega)]) (by unfold maxLen; omega)
  · go_enter Try.func8, Try.ntmps8
    go_wp2_with fail
    refine (rightSize_c _ _).mono ?_
    rintro e _ ⟨rfl, rfl⟩
    rw [decide_eq_false h1]
    go_wp2
    go_ret2
    exact .inl ⟨h1, rfl, Below.refl _ _⟩
end Go.Proofs.Ytbmkcnlcffnjgaa
