/-
  LAW 06's WALKS, second part: CrcJoins: it returns true, and writes nothing that was there. No conditions but that the table lies as the program's text lays it.
-/
import Derived.Test.YtjgemnpineiigaaDoorLaw06a
import Derived.Laws.OwnMore
import Derived.Deep.RegionHeld3
import Derived.Deep.RegionWith
namespace Go.Proofs.YtjgemnpineiigaaDoor
open Go.RowKit
set_option maxRecDepth 100000
set_option linter.unusedVariables false

theorem step_make_full {P : Program} {w : World} {ops : Array Oper} {o : Oper} {a : Act} {K : Act → World → Prop} {Q : Exit → Act → World → Prop} {E : Prop} (hw : Region.wanted o (yielded ops a.tmps) = true)
    (l c : Operand) (t : TypeId) (hop : o.op = Op.makeSlice t l c)
    (base : Nat) (e : TypeId) (i : TypeInfo) (z : Value) (size : Nat) (h1 : P.underlying t = some (.slice e)) (h2 : P.info? e = some i) (h3 : i.zero = some z) (h4 : i.size = size)
    (kl kc : IntKind) (L C : Int) (n : Nat) (hl : a.eval l = .int kl L) (hc : a.eval c = .int kc C) (hL : L = (n : Int)) (hC : C = (n : Int)) (b2 : i.bytes * n ≤ 281474976710656) (b3 : n ≤ maxLen) (b4 : base ≤ w.heap.size)
    (h : ∀ w', w'.ownsRow base e size (.slice (some ⟨w.heap.size, 0, none⟩) n n) n (madeCells z.cells (n * size)).toList → w.grownBy w' none → K (a.put o.dst (.slice (some ⟨w.heap.size, 0, none⟩) n n)) w') :
    if Region.wanted o (yielded ops a.tmps) = true then Oper.wp P o a w K Q else E := by
  rw [if_pos hw]
  obtain ⟨w', hrun, r1, r2⟩ := run_make_full (P := P) w base t e i z size h1 h2 h3 h4 kl kc n b2 b3 b4
  subst hL
  subst hC
  unfold Oper.wp
  simp [execOp, hop, hl, hc, hrun, Result.andThen]
  exact h w' r1 r2
theorem made6 (n : Nat) : (madeCells (Value.int .u8 0).cells (n * 1)).toList = cs (List.replicate n 0) := by
  have e0 : madeCells (Value.int .u8 0).cells (n * 1) = madeCells #[.int .u8 0] n := by rw [Nat.mul_one]; rfl
  rw [e0, toList_madeCells_one]
  unfold cs
  rw [List.map_replicate]
  rfl
theorem row_cells7 {w : World} {ad : Addr} {n : Nat} {l : List F} (h : Row w (some ad) n l) : ∀ j u, (cs l)[j]? = some u → w.cell? (ad.add j) = some u := by
  intro j u hu
  have hj : j < n := by
    have := (List.getElem?_eq_some_iff.1 hu).1
    rw [cs_length, h.len] at this
    exact this
  obtain ⟨b, off, e, _, _⟩ := h.2.2 (by omega)
  injection e with e
  subst e
  exact row_cells6 h j u hu
set_option maxHeartbeats 2000000 in
theorem JoinAB_c {w : World} {H : Nat} {A B : Option Addr} {n c m d : Nat} {l q : List F} (ha : RowIn w A n c l) (hb : RowIn w B m d q) (h0 : w.cell? ⟨H, 0, none⟩ = some (.slice A n c)) (h1 : w.cell? ⟨H, 1, none⟩ = some (.slice B m d)) (hn : n ≤ 1048576) (hm : m ≤ 1048576) :
    Calls Tryd.prog 16 #[.slice (some ⟨H, 0, none⟩) 2 2] w fun e w' => ∃ g k, e = .returned (.slice (some ⟨g, 0, none⟩) (n + m) k) ∧ w'.ownsRow w.heap.size 5 1 (.slice (some ⟨g, 0, none⟩) (n + m) k) (n + m) (cs (l ++ q)) ∧ Below w.heap.size w w' := by
  obtain ⟨i0, hi, hz0, hz1, hz2⟩ := info_parts info_u8c
  have lH := World.block_lt_of_cell? w ⟨H, 0, none⟩ h0
  go_enter Tryd.func16, Tryd.ntmps16
  go_wp2
  go_loopw [3, 4] (fun vs i wr => ∃ (k t g x : Nat) (s : List F), k ≤ 2 ∧ i = .int .i64 k ∧ Hid ((k = 0 ∧ t = 0 ∧ s = []) ∨ (k = 1 ∧ t = n ∧ s = l) ∨ (k = 2 ∧ t = n + m ∧ s = l ++ q)) ∧ vs = .slice (some ⟨g, 0, none⟩) t x ∧ wr.ownsRow w.heap.size 5 1 (.slice (some ⟨g, 0, none⟩) t x) t (cs s) ∧ Below w.heap.size w wr) (fun _ i _ => 2 - (intOf i).toNat)
  case atStart => exact ⟨0, 0, _, 0, [], by omega, rfl, .inl ⟨rfl, rfl, rfl⟩, rfl, World.ownsRow_made (e := 5) (size := 1) w #[] 0 (Nat.le_refl _) (Nat.zero_le _) rfl, (Below.refl _ _).alloc (Nat.le_refl _) _⟩
  case round =>
    obtain ⟨k, t, g, x, s, hk, rfl, hs, rfl, hown, hbel⟩ := hrel
    have hbs := hbel.size
    have hcap := own_caps6 hown
    by_cases hlt : k < 2
    · have hk2 : (k : Int) < 2 := by omega
      obtain ⟨A', n', c', l', q0, hrow, hn', ht, hs2⟩ : ∃ A' n' c' l', wr.cell? ⟨H, k, none⟩ = some (.slice A' n' c') ∧ Row wr A' n' l' ∧ n' ≤ 1048576 ∧ t ≤ 1048576 ∧
          Hid ((k + 1 = 0 ∧ t + n' = 0 ∧ s ++ l' = []) ∨ (k + 1 = 1 ∧ t + n' = n ∧ s ++ l' = l) ∨ (k + 1 = 2 ∧ t + n' = n + m ∧ s ++ l' = l ++ q)) := by
        rcases hs.out with ⟨rfl, rfl, rfl⟩ | ⟨rfl, rfl, rfl⟩ | ⟨rfl, _, _⟩
        · exact ⟨A, n, c, l, (hbel.cell (p := ⟨H, 0, none⟩) lH).trans h0, (ha.below hbel).row, hn, by omega, .inr (.inl ⟨rfl, Nat.zero_add _, rfl⟩)⟩
        · exact ⟨B, m, d, q, (hbel.cell (p := ⟨H, 1, none⟩) lH).trans h1, (hb.below hbel).row, hm, hn, .inr (.inr ⟨rfl, rfl, rfl⟩)⟩
        · omega
      clear hs h0 h1
      cases A' with
      | none =>
        have e1 : n' = 0 := by
          rcases Nat.eq_zero_or_pos n' with e | e
          · exact e
          · obtain ⟨b, o, e2, _⟩ := hrow.2.2 e
            cases e2
        subst e1
        have e2 : l' = [] := List.length_eq_zero_iff.1 hrow.len
        subst e2
        have hs3 : Hid ((k + 1 = 0 ∧ t = 0 ∧ s = []) ∨ (k + 1 = 1 ∧ t = n ∧ s = l) ∨ (k + 1 = 2 ∧ t = n + m ∧ s = l ++ q)) := by
          have h := hs2.out
          rw [Nat.add_zero, List.append_nil] at h
          exact h
        clear hrow hs2
        go_wp2
        go_roundw
        case rel => exact ⟨k + 1, t, g, x, s, by omega, by go_num, hs3, rfl, hown, hbel⟩
        case measure => simp [intOf]; omega
      | some ad =>
        have HC := Lib.hid (row_cells7 hrow)
        have HLEN := Lib.hid hrow.len
        clear hrow
        go_wp2_with (at_builtin; refine wpList_append_own _ rfl (.tmp 12) (.tmp 16) 23 rfl w.heap.size 5 i0 (.int .u8 0) 1 1 Tryd.underlying23 hi hz0 hz1 hz2 rfl (by decide) (.slice (some ⟨g, 0, none⟩) t x) t (cs s) rfl hown ad n' c' (cs l') rfl (by rw [cs_length, HLEN.out, Nat.mul_one]) HC.out (cs_one _) (by unfold maxLen; omega) (by omega) hbs ?_; intro v4 w4 hown4 hg4 hnil4)
        have hsome : ∃ g4 c4, v4 = .slice (some ⟨g4, 0, none⟩) (t + n') c4 := by
          rcases hown4.2 with ⟨hv, _⟩ | ⟨g4, c4, cur, hv, _⟩
          · have := (hnil4.1 hv).1
            injection this with this
            cases this
          · exact ⟨g4, c4, hv⟩
        obtain ⟨g4, c4, rfl⟩ := hsome
        rw [← cs_append] at hown4
        have hb4 := hbel.grown hg4 hbs (fun x hx => (hown.lt x hx).1)
        clear hown hbel hg4 hnil4
        go_wp2
        go_roundw
        case rel => exact ⟨k + 1, t + n', g4, c4, s ++ l', by omega, by go_num, hs2, rfl, hown4, hb4⟩
        case measure => simp [intOf]; omega
    · obtain rfl : k = 2 := by omega
      obtain ⟨rfl, rfl⟩ : t = n + m ∧ s = l ++ q := by
        rcases hs.out with h | h | h
        · omega
        · omega
        · exact h.2
      go_wp2
      go_ret
      exact ⟨g, x, rfl, hown, hbel⟩
theorem Join0_c (x : G) (n : Int) (w : World) : Calls Tryd.prog 17 #[.int .u32 x.n, .int .u32 0, .int .i64 n] w fun e w' => e = .returned (.int .u32 (jn x 0 (nOf n)).n) ∧ w = w' := JoinG_c x 0 n w
theorem Zeros_neg (x : G) (w : World) : Calls Tryd.prog 18 #[.int .u32 x.n, .int .i64 (-1)] w fun e w' => e = .returned (.int .u32 x.n) ∧ w = w' := by
  have h := Zeros_c x (-1) w
  rw [show nOf (-1) = 0 from rfl, show zer x 0 = x from nt_nt x] at h
  exact h
set_option maxHeartbeats 4000000 in
theorem walk_CrcJoins (w : World) (ht : Tab w) (A : Option Addr) (n c : Nat) (l : List F) (ha : RowIn w A n c l) (B : Option Addr) (m d : Nat) (q : List F) (hb : RowIn w B m d q) (x : G) (N : Int) (hN : (Lit.int .i64 N).wf = true) :
    Calls Tryd.prog 4 #[.slice A n c, .slice B m d, .int .u32 x.n, .int .i64 N] w fun e w' => e = .returned (.bool true) ∧ Below w.heap.size w w' := by
  obtain ⟨i0, hi, hz0, hz1', hz2⟩ := info_parts info_u8c
  have hnm := ha.row.max
  have hmm := hb.row.max
  by_cases hn : (300 : Int) < n
  · go_enter Tryd.func4, Tryd.ntmps4
    go_wp2_with (go_at_call 8; refine (alive06_c _ ht).mono ?_; rintro e w1 ⟨rfl, hb1⟩)
    go_ret
    exact ⟨rfl, hb1⟩
  by_cases hm : (300 : Int) < m
  · go_enter Tryd.func4, Tryd.ntmps4
    go_wp2_with (go_at_call 8; refine (alive06_c _ ht).mono ?_; rintro e w1 ⟨rfl, hb1⟩)
    go_ret
    exact ⟨rfl, hb1⟩
  by_cases hN1 : 300 < N
  · by_cases hN2 : N < 1099511627776
    · go_enter Tryd.func4, Tryd.ntmps4
      go_wp2_with (go_at_call 8; refine (alive06_c _ ht).mono ?_; rintro e w1 ⟨rfl, hb1⟩)
      go_ret
      exact ⟨rfl, hb1⟩
    · have HJ : Hid (∀ W, Calls Tryd.prog 17 #[.int .u32 (sum32 l).n, .int .u32 (sum32 q).n, .int .i64 m] W fun e w' => e = .returned (.int .u32 (sum32 (l ++ q)).n) ∧ W = w') := fun W => Join_split hb.row.len (by omega)
      have HZ1 : Hid (∀ W, Calls Tryd.prog 18 #[.int .u32 x.n, .int .i64 (-1)] W fun e w' => e = .returned (.int .u32 x.n) ∧ W = w') := fun W => Zeros_neg x W
      have hnO : nOf N = 1099511627776 := by unfold nOf; omega
      have HJ0 : Hid (∀ W, Calls Tryd.prog 17 #[.int .u32 x.n, .int .u32 0, .int .i64 N] W fun e w' => e = .returned (.int .u32 (jn x 0 1099511627776).n) ∧ W = w') := fun W => by rw [← hnO]; exact Join0_c x N W
      have HJ1 : Hid (∀ W, Calls Tryd.prog 17 #[.int .u32 x.n, .int .u32 0, .int .i64 1099511627776] W fun e w' => e = .returned (.int .u32 (jn x 0 1099511627776).n) ∧ W = w') := fun W => Join0_c x 1099511627776 W
      clear hnO
      have hD := decide_eq_true hN1
      by_cases hN3 : N ≤ 1099511627776
      · go_enter Tryd.func4, Tryd.ntmps4
        go_wp2_with (first
          | (go_at_call 8
             refine (alive06_c _ ht).mono ?_
             rintro e w1 ⟨rfl, hb1⟩
             have ha1 := ha.below hb1
             have hbb1 := hb.below hb1
             have hz1 := heap_alloc_new w1 (.cells #[.slice A n c, .slice B m d] 23)
             have hA1 := (Below.refl w1.heap.size w1).alloc (Nat.le_refl _) (.cells #[.slice A n c, .slice B m d] 23))
          | (go_at_call 16
             refine (JoinAB_c (ha1.below hA1) (hbb1.below hA1) (cell_of_row _ _ 0 _ _ (0, 0) hz1) (cell_of_row _ _ 1 _ _ (0, 0) hz1) (by omega) (by omega)).mono ?_
             rintro e w2 ⟨g2, k2, rfl, hown2, hb2⟩
             have hB2 : Below w.heap.size w w2 := ((hb1.alloc hb1.size (.cells #[.slice A n c, .slice B m d] 23))).trans (hb2.mono (by have := hb1.size; simp; omega))
             have hr2 := Row.of_own hown2
             have ha2 := ha.below hB2
             have hbb2 := hb.below hB2
             have ht2 := ht.below hB2 rfl
             clear ha1 hbb1 hz1 hA1 hown2 hb2)
          | (go_at_call 11; (with_reducible refine (Sum_c A n c l _ ht2 ha2.row).mono ?_); rintro e w' ⟨rfl, rfl⟩)
          | (go_at_call 11; (with_reducible refine (Sum_c B m d q _ ht2 hbb2.row).mono ?_); rintro e w' ⟨rfl, rfl⟩)
          | (go_at_call 12; refine (RefSum_c _ _ _ _ _ hr2).mono ?_; rintro e w' ⟨rfl, rfl⟩)
          | (go_at_call 17; (with_reducible refine (HJ.out _).mono ?_); rintro e w' ⟨rfl, rfl⟩)
          | (go_at_call 17; (with_reducible refine (HJ0.out _).mono ?_); rintro e w' ⟨rfl, rfl⟩)
          | (go_at_call 17; (with_reducible refine (HJ1.out _).mono ?_); rintro e w' ⟨rfl, rfl⟩)
          | (go_at_call 18; (with_reducible refine (HZ1.out _).mono ?_); rintro e w' ⟨rfl, rfl⟩))
        go_quiet (fail)
        go_wp2
        go_ret
        exact ⟨rfl, below_drewN hB2 nq⟩
      · go_enter Tryd.func4, Tryd.ntmps4
        go_wp2_with (first
          | (go_at_call 8
             refine (alive06_c _ ht).mono ?_
             rintro e w1 ⟨rfl, hb1⟩
             have ha1 := ha.below hb1
             have hbb1 := hb.below hb1
             have hz1 := heap_alloc_new w1 (.cells #[.slice A n c, .slice B m d] 23)
             have hA1 := (Below.refl w1.heap.size w1).alloc (Nat.le_refl _) (.cells #[.slice A n c, .slice B m d] 23))
          | (go_at_call 16
             refine (JoinAB_c (ha1.below hA1) (hbb1.below hA1) (cell_of_row _ _ 0 _ _ (0, 0) hz1) (cell_of_row _ _ 1 _ _ (0, 0) hz1) (by omega) (by omega)).mono ?_
             rintro e w2 ⟨g2, k2, rfl, hown2, hb2⟩
             have hB2 : Below w.heap.size w w2 := ((hb1.alloc hb1.size (.cells #[.slice A n c, .slice B m d] 23))).trans (hb2.mono (by have := hb1.size; simp; omega))
             have hr2 := Row.of_own hown2
             have ha2 := ha.below hB2
             have hbb2 := hb.below hB2
             have ht2 := ht.below hB2 rfl
             clear ha1 hbb1 hz1 hA1 hown2 hb2)
          | (go_at_call 11; (with_reducible refine (Sum_c A n c l _ ht2 ha2.row).mono ?_); rintro e w' ⟨rfl, rfl⟩)
          | (go_at_call 11; (with_reducible refine (Sum_c B m d q _ ht2 hbb2.row).mono ?_); rintro e w' ⟨rfl, rfl⟩)
          | (go_at_call 12; refine (RefSum_c _ _ _ _ _ hr2).mono ?_; rintro e w' ⟨rfl, rfl⟩)
          | (go_at_call 17; (with_reducible refine (HJ.out _).mono ?_); rintro e w' ⟨rfl, rfl⟩)
          | (go_at_call 17; (with_reducible refine (HJ0.out _).mono ?_); rintro e w' ⟨rfl, rfl⟩)
          | (go_at_call 17; (with_reducible refine (HJ1.out _).mono ?_); rintro e w' ⟨rfl, rfl⟩)
          | (go_at_call 18; (with_reducible refine (HZ1.out _).mono ?_); rintro e w' ⟨rfl, rfl⟩))
        go_quiet (fail)
        go_wp2
        go_ret
        exact ⟨rfl, below_drewN hB2 nq⟩
  · have HJ : Hid (∀ W, Calls Tryd.prog 17 #[.int .u32 (sum32 l).n, .int .u32 (sum32 q).n, .int .i64 m] W fun e w' => e = .returned (.int .u32 (sum32 (l ++ q)).n) ∧ W = w') := fun W => Join_split hb.row.len (by omega)
    have HZ1 : Hid (∀ W, Calls Tryd.prog 18 #[.int .u32 x.n, .int .i64 (-1)] W fun e w' => e = .returned (.int .u32 x.n) ∧ W = w') := fun W => Zeros_neg x W
    have HJ0 : Hid (∀ W, Calls Tryd.prog 17 #[.int .u32 x.n, .int .u32 0, .int .i64 N] W fun e w' => e = .returned (.int .u32 (jn x 0 (nOf N)).n) ∧ W = w') := fun W => Join0_c x N W
    have HJ1 := HJ0
    have hD := decide_eq_false hN1
    have hN3 : N ≤ 1099511627776 := by omega
    by_cases hN4 : N < 0
    · have HZ : Hid (∀ W, Calls Tryd.prog 18 #[.int .u32 x.n, .int .i64 N] W fun e w' => e = .returned (.int .u32 (upd x (List.replicate 0 0)).n) ∧ W = w') := fun W => by
        have h := Zeros_c x N W
        rw [show nOf N = 0 by unfold nOf; omega, ← upd_zeros] at h
        exact h
      go_enter Tryd.func4, Tryd.ntmps4
      go_wp2_with (first
        | (go_at_call 8
           refine (alive06_c _ ht).mono ?_
           rintro e w1 ⟨rfl, hb1⟩
           have ha1 := ha.below hb1
           have hbb1 := hb.below hb1
           have hz1 := heap_alloc_new w1 (.cells #[.slice A n c, .slice B m d] 23)
           have hA1 := (Below.refl w1.heap.size w1).alloc (Nat.le_refl _) (.cells #[.slice A n c, .slice B m d] 23))
        | (go_at_call 16
           refine (JoinAB_c (ha1.below hA1) (hbb1.below hA1) (cell_of_row _ _ 0 _ _ (0, 0) hz1) (cell_of_row _ _ 1 _ _ (0, 0) hz1) (by omega) (by omega)).mono ?_
           rintro e w2 ⟨g2, k2, rfl, hown2, hb2⟩
           have hB2 : Below w.heap.size w w2 := ((hb1.alloc hb1.size (.cells #[.slice A n c, .slice B m d] 23))).trans (hb2.mono (by have := hb1.size; simp; omega))
           have hr2 := Row.of_own hown2
           have ha2 := ha.below hB2
           have hbb2 := hb.below hB2
           have ht2 := ht.below hB2 rfl
           clear ha1 hbb1 hz1 hA1 hown2 hb2)
        | (go_at_call 11; (with_reducible refine (Sum_c A n c l _ ht2 ha2.row).mono ?_); rintro e w' ⟨rfl, rfl⟩)
        | (go_at_call 11; (with_reducible refine (Sum_c B m d q _ ht2 hbb2.row).mono ?_); rintro e w' ⟨rfl, rfl⟩)
        | (go_at_call 12; refine (RefSum_c _ _ _ _ _ hr2).mono ?_; rintro e w' ⟨rfl, rfl⟩)
        | (go_at_call 17; (with_reducible refine (HJ.out _).mono ?_); rintro e w' ⟨rfl, rfl⟩)
        | (go_at_call 17; (with_reducible refine (HJ0.out _).mono ?_); rintro e w' ⟨rfl, rfl⟩)
        | (go_at_call 17; (with_reducible refine (HJ1.out _).mono ?_); rintro e w' ⟨rfl, rfl⟩)
        | (go_at_call 18; (with_reducible refine (HZ1.out _).mono ?_); rintro e w' ⟨rfl, rfl⟩))
      obtain ⟨w5, hrun0, hown5, hg5⟩ := run_make_full (P := Tryd.prog) w2.drew w.heap.size 23 5 i0 (.int .u8 0) 1 Tryd.underlying23 hi hz0 hz1' .i64 .i64 0 (by rw [hz2]; omega) (by unfold maxLen; omega) hB2.size
      have hrun : Sem.run Tryd.prog (Instr.makeSlice 23 (.int .i64 0) (.int .i64 0)) w2.drew = .ok (.slice (some ⟨w2.heap.size, 0, none⟩) 0 0) w5 := hrun0
      rw [made6] at hown5
      have hr5 := Row.of_own hown5
      have hb5 : Below w.heap.size w w5 := (below_drewN hB2 1).grown hg5 hB2.size (fun x hx => by cases hx)
      clear hrun0 hown5 hg5
      go_region_held3 (fun _ => True)
        (trivial)
        (first
          | (go_at_call 18; (with_reducible refine (HZ.out _).mono ?_); rintro e w' ⟨rfl, rfl⟩)
          | (go_at_call 10; refine (RefUpdate_c x _ _ _ (List.replicate 0 0) _ hr5).mono ?_; rintro e w' ⟨rfl, rfl⟩))
      all_goals
        go_wp2
        go_ret
        exact ⟨rfl, hb5⟩
    · obtain ⟨k, rfl⟩ := Int.eq_ofNat_of_zero_le (show 0 ≤ N by omega)
      have HZ : Hid (∀ W, Calls Tryd.prog 18 #[.int .u32 x.n, .int .i64 k] W fun e w' => e = .returned (.int .u32 (upd x (List.replicate k 0)).n) ∧ W = w') := fun W => by
        have h := Zeros_c x k W
        rw [nOf_nat (by omega), ← upd_zeros] at h
        exact h
      go_enter Tryd.func4, Tryd.ntmps4
      go_wp2_with (first
        | (go_at_call 8
           refine (alive06_c _ ht).mono ?_
           rintro e w1 ⟨rfl, hb1⟩
           have ha1 := ha.below hb1
           have hbb1 := hb.below hb1
           have hz1 := heap_alloc_new w1 (.cells #[.slice A n c, .slice B m d] 23)
           have hA1 := (Below.refl w1.heap.size w1).alloc (Nat.le_refl _) (.cells #[.slice A n c, .slice B m d] 23))
        | (go_at_call 16
           refine (JoinAB_c (ha1.below hA1) (hbb1.below hA1) (cell_of_row _ _ 0 _ _ (0, 0) hz1) (cell_of_row _ _ 1 _ _ (0, 0) hz1) (by omega) (by omega)).mono ?_
           rintro e w2 ⟨g2, k2, rfl, hown2, hb2⟩
           have hB2 : Below w.heap.size w w2 := ((hb1.alloc hb1.size (.cells #[.slice A n c, .slice B m d] 23))).trans (hb2.mono (by have := hb1.size; simp; omega))
           have hr2 := Row.of_own hown2
           have ha2 := ha.below hB2
           have hbb2 := hb.below hB2
           have ht2 := ht.below hB2 rfl
           clear ha1 hbb1 hz1 hA1 hown2 hb2)
        | (go_at_call 11; (with_reducible refine (Sum_c A n c l _ ht2 ha2.row).mono ?_); rintro e w' ⟨rfl, rfl⟩)
        | (go_at_call 11; (with_reducible refine (Sum_c B m d q _ ht2 hbb2.row).mono ?_); rintro e w' ⟨rfl, rfl⟩)
        | (go_at_call 12; refine (RefSum_c _ _ _ _ _ hr2).mono ?_; rintro e w' ⟨rfl, rfl⟩)
        | (go_at_call 17; (with_reducible refine (HJ.out _).mono ?_); rintro e w' ⟨rfl, rfl⟩)
        | (go_at_call 17; (with_reducible refine (HJ0.out _).mono ?_); rintro e w' ⟨rfl, rfl⟩)
        | (go_at_call 17; (with_reducible refine (HJ1.out _).mono ?_); rintro e w' ⟨rfl, rfl⟩)
        | (go_at_call 18; (with_reducible refine (HZ1.out _).mono ?_); rintro e w' ⟨rfl, rfl⟩))
      obtain ⟨w5, hrun0, hown5, hg5⟩ := run_make_full (P := Tryd.prog) w2.drew w.heap.size 23 5 i0 (.int .u8 0) 1 Tryd.underlying23 hi hz0 hz1' .i64 .i64 k (by rw [hz2]; omega) (by unfold maxLen; omega) hB2.size
      have hrun : Sem.run Tryd.prog (Instr.makeSlice 23 (.int .i64 (k : Int)) (.int .i64 (k : Int))) w2.drew = .ok (.slice (some ⟨w2.heap.size, 0, none⟩) k k) w5 := hrun0
      rw [made6] at hown5
      have hr5 := Row.of_own hown5
      have hb5 : Below w.heap.size w w5 := (below_drewN hB2 1).grown hg5 hB2.size (fun x hx => by cases hx)
      clear hrun0 hown5 hg5
      go_region_held3 (fun _ => True)
        (trivial)
        (first
          | (go_at_call 18; (with_reducible refine (HZ.out _).mono ?_); rintro e w' ⟨rfl, rfl⟩)
          | (go_at_call 10; refine (RefUpdate_c x _ _ _ (List.replicate k 0) _ hr5).mono ?_; rintro e w' ⟨rfl, rfl⟩))
      all_goals
        go_wp2
        go_ret
        exact ⟨rfl, hb5⟩
end Go.Proofs.YtjgemnpineiigaaDoor
