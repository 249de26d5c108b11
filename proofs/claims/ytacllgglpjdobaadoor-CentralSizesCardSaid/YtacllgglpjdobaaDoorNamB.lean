/-
  THE CONTRACTS OF THE LIBRARY'S strings.Clone, and of the iterator that strings.SplitSeq makes at a /. Strings of at most 1000000 bytes.
-/
import Derived.Test.YtacllgglpjdobaaDoorNamA
namespace Go.Proofs.YtacllgglpjdobaaDoor
open Go.RowKit Go.Shelf
set_option maxRecDepth 1000000
set_option linter.unusedVariables false
attribute [local go_sem] Oper.semAt_some

theorem drop_getD {α : Type} {L M : List α} {k : Nat} {a d : α} (h : L.drop k = a :: M) : L.getD k d = a ∧ k < L.length ∧ L.drop (k + 1) = M := by
  have h1 : k < L.length := by
    rcases Nat.lt_or_ge k L.length with h2 | h2
    · exact h2
    · rw [List.drop_of_length_le h2] at h; cases h
  rw [List.drop_eq_getElem_cons h1] at h
  injection h with h3 h4
  refine ⟨?_, h1, h4⟩
  rw [List.getD_eq_getElem?_getD, List.getElem?_eq_getElem h1]
  exact h3
theorem slice_head (p r : List UInt8) : (S (p ++ 47 :: r)).extract 0 p.length = S p := by
  rw [S_extract _ _ _ (by simp), List.drop_zero, List.take_left]
theorem slice_rest (p r : List UInt8) : (S (p ++ 47 :: r)).extract (p.length + 1) (S (p ++ 47 :: r)).size = S r := by
  rw [S_size, S_extract _ _ _ (Nat.le_refl _), List.take_of_length_le (Nat.le_refl _)]
  congr 1
  have : p ++ 47 :: r = (p ++ [47]) ++ r := by simp
  rw [this, List.drop_left' (by simp)]
set_option maxHeartbeats 8000000 in
theorem split_seq (n : Nat) (hn : 1 ≤ n) (B : Nat) (l : List UInt8) (hl : l.length ≤ 1000000) (w : World) (c0 : Boxed w B 9 (.string (S l))) (c1 : Boxed w (B + 1) 9 (.string ⟨#[47]⟩)) (c2 : Boxed w (B + 2) 3 (.int .i64 0)) :
    SeqS Fence.wide n Tryd.prog 65 #[.pointer (some ⟨B + 1, 0, none⟩), .pointer (some ⟨B, 0, none⟩), .pointer (some ⟨B + 2, 0, none⟩)] (fun k => #[.string (S ((spl l).getD k []))]) (spl l).length B 3 w := by
  intro ll J Jx W hK hJ hJx hY h0
  have b0 := hK.boxed (Nat.le_refl _) (by omega) c0
  have b1 := hK.boxed (by omega) (by omega) c1
  have b2 := hK.boxed (by omega) (by omega) c2
  clear c0 c1 c2 hK
  have d1 := b1.cell
  have HY := Lib.hid hY
  have HJ := Lib.hid hJ
  have HL := Lib.hid hl
  have HB0 := Lib.hid b0
  have HB1 := Lib.hid b1
  have HB2 := Lib.hid b2
  have HH0 := Lib.hid h0
  clear hY hJ hl b0 b1 b2 h0
  refine callsIn_of_wp Tryd.func65 rfl trivial ?_ rfl
  simp only [Tryd.ntmps65, List.size_toArray, List.length_cons, List.length_nil, Nat.reduceAdd, Nat.reduceSub, Array.replicate_succ, Array.replicate_zero, List.push_toArray, List.append_toArray, List.nil_append, List.cons_append]
  gi_wp2
  gi_loopw [7, 8] (fun _ _ wr => ∃ (k : Nat) (rest : List UInt8), Hid ((spl l).drop k = spl rest) ∧ Hid (rest.length ≤ 1000000) ∧ Hid (Boxed wr B 9 (.string (S rest))) ∧ Hid (Boxed wr (B + 1) 9 (.string ⟨#[47]⟩)) ∧ Hid (Boxed wr (B + 2) 3 (.int .i64 0)) ∧ Hid (J k wr))
    (fun _ _ wr => match wr.cell? ⟨B, 0, none⟩ with | some (.string s) => s.size | _ => 0)
  case atStart => exact ⟨0, l, rfl, HL.out, HB0.out, HB1.out, HB2.out, HH0.out⟩
  case round =>
    obtain ⟨k, rest, hd, hr, e0, e1, e2, hj⟩ := hrel
    have x0 := e0.out.cell
    have x1 := e1.out.cell
    have x2 := e2.out.cell
    have y0 := e0.out.frozen
    obtain ⟨p, r, hp, hc⟩ := spl_first rest
    rcases hc with ⟨q1, q2, _⟩ | ⟨q1, q2⟩
    · subst q1
      have HI : Hid (∀ W, Calls Tryd.prog 67 #[.string (S rest), .string ⟨#[47]⟩] W fun e w' => e = .returned (.int .i64 (-1)) ∧ w' = W) := fun W => (Index_c16 (S rest) W).mono (by
        rintro e w' ⟨rfl, rfl⟩
        rw [toList_S, index_no _ hp]
        exact ⟨rfl, rfl⟩)
      obtain ⟨g1, g2, g3⟩ := drop_getD (d := []) (hd.out.trans q2)
      have hN : Hid (k + 1 = (spl l).length) := by
        unfold Hid
        have := congrArg List.length g3
        rw [List.length_drop] at this
        simp at this
        omega
      obtain ⟨fn, tmps, assign, body, hy, hR⟩ := HY.out k wr g2 hj.out
      rw [g1] at hy
      have G2 := Lib.hid g2
      clear hd g1 g2 g3 q2
      gi_wp2_with (refine ⟨trivial, ?_⟩; gi_at_call 67; refine (callsIn_wide.2 (HI.out _)).mono ?_; rintro e w' ⟨rfl, rfl⟩)
      refine hR.mono ?_
      rintro e W3 (⟨rfl, hJ3, hk3⟩ | ⟨rfl, hJx3⟩)
      · gi_wp2
        go_end0
        exact ⟨⟨_, rfl⟩, .inl (by rw [← hN.out]; exact hJ3)⟩
      · gi_wp2
        go_end0
        exact ⟨⟨_, rfl⟩, .inr ⟨k, G2.out, hJx3⟩⟩
    · subst q1
      have HI : Hid (∀ W, Calls Tryd.prog 67 #[.string (S (p ++ 47 :: r)), .string ⟨#[47]⟩] W fun e w' => e = .returned (.int .i64 (p.length : Nat)) ∧ w' = W) := fun W => (Index_c16 (S (p ++ 47 :: r)) W).mono (by
        rintro e w' ⟨rfl, rfl⟩
        rw [toList_S, index_at _ _ hp]
        exact ⟨rfl, rfl⟩)
      obtain ⟨g1, g2, g3⟩ := drop_getD (d := []) (hd.out.trans q2)
      obtain ⟨fn, tmps, assign, body, hy, hR⟩ := HY.out k wr g2 hj.out
      rw [g1] at hy
      have G2 := Lib.hid g2
      have G3 := Lib.hid g3
      have hs1 := slice_head p r
      have hs2 := slice_rest p r
      have hsz : (S (p ++ 47 :: r)).size = p.length + 1 + r.length := by rw [S_size, List.length_append, List.length_cons]; omega
      have hrl : Hid (r.length ≤ 1000000) := by have := hr.out; rw [List.length_append, List.length_cons] at this; unfold Hid; omega
      have hpl : p.length ≤ 1000000 := by have := hr.out; rw [List.length_append, List.length_cons] at this; omega
      rw [hsz] at hs2
      generalize S (p ++ 47 :: r) = sv at *
      obtain ⟨m, hm⟩ : ∃ m, m = p.length := ⟨_, rfl⟩
      obtain ⟨t, ht⟩ : ∃ t, t = m + 1 + r.length := ⟨_, rfl⟩
      rw [← hm] at hs1 hs2 HI hsz hpl
      rw [← ht] at hs2 hsz
      have hmt : m + 1 ≤ t := by omega
      have hmt2 : m ≤ t := by omega
      have HT := Lib.hid ht
      clear hd g1 g2 g3 q2 hm ht
      gi_wp2_with (refine ⟨trivial, ?_⟩; gi_at_call 67; refine (callsIn_wide.2 (HI.out _)).mono ?_; rintro e w' ⟨rfl, rfl⟩)
      refine hR.mono ?_
      rintro e W3 (⟨rfl, hJ3, hk3⟩ | ⟨rfl, hJx3⟩)
      · have f0 := hk3.boxed (Nat.le_refl _) (by omega) e0.out
        have f1 := hk3.boxed (by omega) (by omega) e1.out
        have f2 := hk3.boxed (by omega) (by omega) e2.out
        have x0' := f0.cell
        have x1' := f1.cell
        have y0' := f0.frozen
        have F0 := Lib.hid (f0.set (.string (S r)))
        have F1 := Lib.hid (f1.other (B' := B) (by omega) (.string (S r)))
        have F2 := Lib.hid (f2.other (B' := B) (by omega) (.string (S r)))
        have FJ := Lib.hid (HJ.out (k + 1) _ _ (some B) hJ3 (grownBy_setCell' W3 B (.string (S r))) (fun r e => by cases e; rfl))
        clear f0 f1 f2
        gi_wp2
        go_roundw
        case rel => exact ⟨k + 1, r, G3.out, hrl.out, F0.out, F1.out, F2.out, FJ.out⟩
        case measure =>
          rw [F0.out.cell, x0]
          dsimp only
          rw [hsz, S_size]
          have := HT.out
          omega
      · gi_wp2
        refine bodyPost_ret (results_none rfl _ _ _) rfl ?_
        exact ⟨⟨_, rfl⟩, .inr ⟨k, G2.out, hJx3⟩⟩
end Go.Proofs.YtacllgglpjdobaaDoor
