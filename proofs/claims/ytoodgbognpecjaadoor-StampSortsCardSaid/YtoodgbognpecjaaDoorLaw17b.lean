/-
  LAW 17: StampSorts. No conditions (but that the table lies as the program's text lays it).
-/
import Derived.Test.YtoodgbognpecjaaDoorLaw17
namespace Go.Proofs.YtoodgbognpecjaaDoor
open Go.RowKit
set_option maxRecDepth 1000000
set_option linter.unusedVariables false

theorem below_six {W W' : World} (hb : Below W.heap.size W W') {g : Nat} (hg : g < W.heap.size) {a b c d e f : Value} (h : W.cell? ⟨g, 0, none⟩ = some a ∧ W.cell? ⟨g, 1, none⟩ = some b ∧ W.cell? ⟨g, 2, none⟩ = some c ∧ W.cell? ⟨g, 3, none⟩ = some d ∧ W.cell? ⟨g, 4, none⟩ = some e ∧ W.cell? ⟨g, 5, none⟩ = some f) :
    W'.cell? ⟨g, 0, none⟩ = some a ∧ W'.cell? ⟨g, 1, none⟩ = some b ∧ W'.cell? ⟨g, 2, none⟩ = some c ∧ W'.cell? ⟨g, 3, none⟩ = some d ∧ W'.cell? ⟨g, 4, none⟩ = some e ∧ W'.cell? ⟨g, 5, none⟩ = some f :=
  ⟨(hb.cell (p := ⟨g, 0, none⟩) hg).trans h.1, (hb.cell (p := ⟨g, 1, none⟩) hg).trans h.2.1, (hb.cell (p := ⟨g, 2, none⟩) hg).trans h.2.2.1, (hb.cell (p := ⟨g, 3, none⟩) hg).trans h.2.2.2.1, (hb.cell (p := ⟨g, 4, none⟩) hg).trans h.2.2.2.2.1, (hb.cell (p := ⟨g, 5, none⟩) hg).trans h.2.2.2.2.2⟩
/-- three boxes, while calls run -/
structure TEnv (w : World) (g1 g2 g3 : Nat) (a b c : St) (W : World) : Prop where
  bel : Below w.heap.size w W
  one : Blk W g1 23 #[.int .i64 a.y, .int .i64 a.mo, .int .i64 a.d, .int .i64 a.h, .int .i64 a.mi, .int .i64 a.s]
  two : Blk W g2 23 #[.int .i64 b.y, .int .i64 b.mo, .int .i64 b.d, .int .i64 b.h, .int .i64 b.mi, .int .i64 b.s]
  three : Blk W g3 23 #[.int .i64 c.y, .int .i64 c.mo, .int .i64 c.d, .int .i64 c.h, .int .i64 c.mi, .int .i64 c.s]
  tab : TabM W
theorem TEnv.go {w W W' : World} {g1 g2 g3 : Nat} {a b c : St} (h : TEnv w g1 g2 g3 a b c W) (hb : Below W.heap.size W W') : TEnv w g1 g2 g3 a b c W' :=
  ⟨h.bel.trans (hb.mono h.bel.size), h.one.below h.one.lt hb, h.two.below h.two.lt hb, h.three.below h.three.lt hb, h.tab.below hb⟩
theorem TEnv.new {w : World} (a b c : St) (ht : TabM w) : TEnv w w.heap.size (w.heap.size + 1) (w.heap.size + 1 + 1) a b c (((w.alloc (.cells #[.int .i64 a.y, .int .i64 a.mo, .int .i64 a.d, .int .i64 a.h, .int .i64 a.mi, .int .i64 a.s] 23)).alloc (.cells #[.int .i64 b.y, .int .i64 b.mo, .int .i64 b.d, .int .i64 b.h, .int .i64 b.mi, .int .i64 b.s] 23)).alloc (.cells #[.int .i64 c.y, .int .i64 c.mo, .int .i64 c.d, .int .i64 c.h, .int .i64 c.mi, .int .i64 c.s] 23)) := by
  have k1 := Blk.new w 23 #[.int .i64 a.y, .int .i64 a.mo, .int .i64 a.d, .int .i64 a.h, .int .i64 a.mi, .int .i64 a.s]
  have k2 := Blk.new (w.alloc (.cells #[.int .i64 a.y, .int .i64 a.mo, .int .i64 a.d, .int .i64 a.h, .int .i64 a.mi, .int .i64 a.s] 23)) 23 #[.int .i64 b.y, .int .i64 b.mo, .int .i64 b.d, .int .i64 b.h, .int .i64 b.mi, .int .i64 b.s]
  have k3 := Blk.new ((w.alloc (.cells #[.int .i64 a.y, .int .i64 a.mo, .int .i64 a.d, .int .i64 a.h, .int .i64 a.mi, .int .i64 a.s] 23)).alloc (.cells #[.int .i64 b.y, .int .i64 b.mo, .int .i64 b.d, .int .i64 b.h, .int .i64 b.mi, .int .i64 b.s] 23)) 23 #[.int .i64 c.y, .int .i64 c.mo, .int .i64 c.d, .int .i64 c.h, .int .i64 c.mi, .int .i64 c.s]
  rw [World.size_alloc] at k2
  rw [World.size_alloc, World.size_alloc] at k3
  exact ⟨((((Below.refl w.heap.size w).alloc (Nat.le_refl _) _).alloc (by simp) _).alloc (by simp; omega) _), (k1.below k1.lt ((Below.refl _ _).alloc (Nat.le_refl _) _)).below (k1.below k1.lt ((Below.refl _ _).alloc (Nat.le_refl _) _)).lt ((Below.refl _ _).alloc (Nat.le_refl _) _), k2.below k2.lt ((Below.refl _ _).alloc (Nat.le_refl _) _), k3, ((ht.alloc _).alloc _).alloc _⟩
theorem same_c (a b c d e f : Int) (W : World) : Calls Tryd.prog 16 #[.agg #[.int .i64 a, .int .i64 b, .int .i64 c, .int .i64 d, .int .i64 e, .int .i64 f], .agg #[.int .i64 a, .int .i64 b, .int .i64 c, .int .i64 d, .int .i64 e, .int .i64 f]] W fun e w' => e = .returned (.int .i64 0) ∧ Below W.heap.size W w' := by
  have h := CompareS_c ⟨a, b, c, d, e, f⟩ ⟨a, b, c, d, e, f⟩ W
  rw [show cmpS ⟨a, b, c, d, e, f⟩ ⟨a, b, c, d, e, f⟩ = 0 from cmpS_zero.2 rfl] at h
  exact h
set_option maxHeartbeats 8000000 in
theorem walk_StampSorts (w : World) (ht : TabM w) (a : St) (ha : StW a) (b : St) (hb : StW b) (c : St) (hc : StW c) :
    Calls Tryd.prog 6 #[stV a, stV b, stV c] w fun e w' => e = .returned (.bool true) ∧ Below w.heap.size w w' := by
  have C1 := Lib.hid (fun W => CompareS_c a b W)
  have C2 := Lib.hid (fun W => CompareS_c b c W)
  have C3 := Lib.hid (fun W => CompareS_c a c W)
  have C4 := Lib.hid same_c
  obtain ⟨t1, t2, t3⟩ := cmpS_tri a b c
  obtain ⟨b1, b2⟩ := cmpS_bd a b
  have hz : cmpS a b = 0 ↔ a = b := cmpS_zero
  have hE0 := TEnv.new (w := w) a b c ht
  have HZ := Lib.hid hz
  have HT1 := Lib.hid t1
  have HT2 := Lib.hid t2
  generalize cmpS a b = x at *
  generalize cmpS b c = y at *
  generalize cmpS a c = z at *
  obtain ⟨a1, a2, a3, a4, a5, a6⟩ := a
  obtain ⟨d1, d2, d3, d4, d5, d6⟩ := b
  obtain ⟨c1, c2, c3, c4, c5, c6⟩ := c
  unfold stV at C1 C2 C3 ⊢
  dsimp only at C1 C2 C3 hE0 ⊢
  have E0 := Lib.hid hE0
  clear t1 t2 t3 hz hE0 ha hb hc ht
  go_enter Tryd.func6, Tryd.ntmps6
  go_wp2_with fail
  refine (alive17_c _ E0.out.tab).mono ?_
  rintro e w1 ⟨rfl, hb⟩
  have E1 := Lib.hid (E0.out.go hb)
  clear hb E0
  obtain ⟨g1, hg1⟩ : ∃ g, g = w.heap.size := ⟨_, rfl⟩
  rw [← hg1] at E1 ⊢
  have HG := Lib.hid hg1
  clear hg1
  have f1 := sixS E1.out.one
  have f2 := sixS E1.out.two
  have f3 := sixS E1.out.three
  have HL1 : g1 < w1.heap.size := E1.out.one.lt
  have HL2 : g1 + 1 < w1.heap.size := E1.out.two.lt
  have HL3 : g1 + 1 + 1 < w1.heap.size := E1.out.three.lt
  dsimp only at f1 f2 f3
  go_split_ands
  go_wp2
  go_region_held3 (fun w' => w'.cell? ⟨g1, 0, none⟩ = some (.int .i64 a1) ∧ w'.cell? ⟨g1, 1, none⟩ = some (.int .i64 a2) ∧ w'.cell? ⟨g1, 2, none⟩ = some (.int .i64 a3) ∧ w'.cell? ⟨g1, 3, none⟩ = some (.int .i64 a4) ∧ w'.cell? ⟨g1, 4, none⟩ = some (.int .i64 a5) ∧ w'.cell? ⟨g1, 5, none⟩ = some (.int .i64 a6) ∧ w'.cell? ⟨g1 + 1, 0, none⟩ = some (.int .i64 d1) ∧ w'.cell? ⟨g1 + 1, 1, none⟩ = some (.int .i64 d2) ∧ w'.cell? ⟨g1 + 1, 2, none⟩ = some (.int .i64 d3) ∧ w'.cell? ⟨g1 + 1, 3, none⟩ = some (.int .i64 d4) ∧ w'.cell? ⟨g1 + 1, 4, none⟩ = some (.int .i64 d5) ∧ w'.cell? ⟨g1 + 1, 5, none⟩ = some (.int .i64 d6) ∧ w'.cell? ⟨g1 + 1 + 1, 0, none⟩ = some (.int .i64 c1) ∧ w'.cell? ⟨g1 + 1 + 1, 1, none⟩ = some (.int .i64 c2) ∧ w'.cell? ⟨g1 + 1 + 1, 2, none⟩ = some (.int .i64 c3) ∧ w'.cell? ⟨g1 + 1 + 1, 3, none⟩ = some (.int .i64 c4) ∧ w'.cell? ⟨g1 + 1 + 1, 4, none⟩ = some (.int .i64 c5) ∧ w'.cell? ⟨g1 + 1 + 1, 5, none⟩ = some (.int .i64 c6) ∧ g1 + 1 + 1 < w'.heap.size) (first
    | go_keep
    | (go_split_ands
       exact ⟨(hb3.cell (p := ⟨g1, 0, none⟩) (by show g1 < _; omega)).trans (by assumption), (hb3.cell (p := ⟨g1, 1, none⟩) (by show g1 < _; omega)).trans (by assumption), (hb3.cell (p := ⟨g1, 2, none⟩) (by show g1 < _; omega)).trans (by assumption), (hb3.cell (p := ⟨g1, 3, none⟩) (by show g1 < _; omega)).trans (by assumption), (hb3.cell (p := ⟨g1, 4, none⟩) (by show g1 < _; omega)).trans (by assumption), (hb3.cell (p := ⟨g1, 5, none⟩) (by show g1 < _; omega)).trans (by assumption), (hb3.cell (p := ⟨g1 + 1, 0, none⟩) (by show g1 + 1 < _; omega)).trans (by assumption), (hb3.cell (p := ⟨g1 + 1, 1, none⟩) (by show g1 + 1 < _; omega)).trans (by assumption), (hb3.cell (p := ⟨g1 + 1, 2, none⟩) (by show g1 + 1 < _; omega)).trans (by assumption), (hb3.cell (p := ⟨g1 + 1, 3, none⟩) (by show g1 + 1 < _; omega)).trans (by assumption), (hb3.cell (p := ⟨g1 + 1, 4, none⟩) (by show g1 + 1 < _; omega)).trans (by assumption), (hb3.cell (p := ⟨g1 + 1, 5, none⟩) (by show g1 + 1 < _; omega)).trans (by assumption), (hb3.cell (p := ⟨g1 + 1 + 1, 0, none⟩) (by show g1 + 1 + 1 < _; omega)).trans (by assumption), (hb3.cell (p := ⟨g1 + 1 + 1, 1, none⟩) (by show g1 + 1 + 1 < _; omega)).trans (by assumption), (hb3.cell (p := ⟨g1 + 1 + 1, 2, none⟩) (by show g1 + 1 + 1 < _; omega)).trans (by assumption), (hb3.cell (p := ⟨g1 + 1 + 1, 3, none⟩) (by show g1 + 1 + 1 < _; omega)).trans (by assumption), (hb3.cell (p := ⟨g1 + 1 + 1, 4, none⟩) (by show g1 + 1 + 1 < _; omega)).trans (by assumption), (hb3.cell (p := ⟨g1 + 1 + 1, 5, none⟩) (by show g1 + 1 + 1 < _; omega)).trans (by assumption), by have := hb3.size; omega⟩)
    | (go_split_ands
       exact ⟨(hb2.cell (p := ⟨g1, 0, none⟩) (by show g1 < _; omega)).trans (by assumption), (hb2.cell (p := ⟨g1, 1, none⟩) (by show g1 < _; omega)).trans (by assumption), (hb2.cell (p := ⟨g1, 2, none⟩) (by show g1 < _; omega)).trans (by assumption), (hb2.cell (p := ⟨g1, 3, none⟩) (by show g1 < _; omega)).trans (by assumption), (hb2.cell (p := ⟨g1, 4, none⟩) (by show g1 < _; omega)).trans (by assumption), (hb2.cell (p := ⟨g1, 5, none⟩) (by show g1 < _; omega)).trans (by assumption), (hb2.cell (p := ⟨g1 + 1, 0, none⟩) (by show g1 + 1 < _; omega)).trans (by assumption), (hb2.cell (p := ⟨g1 + 1, 1, none⟩) (by show g1 + 1 < _; omega)).trans (by assumption), (hb2.cell (p := ⟨g1 + 1, 2, none⟩) (by show g1 + 1 < _; omega)).trans (by assumption), (hb2.cell (p := ⟨g1 + 1, 3, none⟩) (by show g1 + 1 < _; omega)).trans (by assumption), (hb2.cell (p := ⟨g1 + 1, 4, none⟩) (by show g1 + 1 < _; omega)).trans (by assumption), (hb2.cell (p := ⟨g1 + 1, 5, none⟩) (by show g1 + 1 < _; omega)).trans (by assumption), (hb2.cell (p := ⟨g1 + 1 + 1, 0, none⟩) (by show g1 + 1 + 1 < _; omega)).trans (by assumption), (hb2.cell (p := ⟨g1 + 1 + 1, 1, none⟩) (by show g1 + 1 + 1 < _; omega)).trans (by assumption), (hb2.cell (p := ⟨g1 + 1 + 1, 2, none⟩) (by show g1 + 1 + 1 < _; omega)).trans (by assumption), (hb2.cell (p := ⟨g1 + 1 + 1, 3, none⟩) (by show g1 + 1 + 1 < _; omega)).trans (by assumption), (hb2.cell (p := ⟨g1 + 1 + 1, 4, none⟩) (by show g1 + 1 + 1 < _; omega)).trans (by assumption), (hb2.cell (p := ⟨g1 + 1 + 1, 5, none⟩) (by show g1 + 1 + 1 < _; omega)).trans (by assumption), by have := hb2.size; omega⟩)
    | (go_split_ands
       exact ⟨(hb1.cell (p := ⟨g1, 0, none⟩) (by show g1 < _; omega)).trans (by assumption), (hb1.cell (p := ⟨g1, 1, none⟩) (by show g1 < _; omega)).trans (by assumption), (hb1.cell (p := ⟨g1, 2, none⟩) (by show g1 < _; omega)).trans (by assumption), (hb1.cell (p := ⟨g1, 3, none⟩) (by show g1 < _; omega)).trans (by assumption), (hb1.cell (p := ⟨g1, 4, none⟩) (by show g1 < _; omega)).trans (by assumption), (hb1.cell (p := ⟨g1, 5, none⟩) (by show g1 < _; omega)).trans (by assumption), (hb1.cell (p := ⟨g1 + 1, 0, none⟩) (by show g1 + 1 < _; omega)).trans (by assumption), (hb1.cell (p := ⟨g1 + 1, 1, none⟩) (by show g1 + 1 < _; omega)).trans (by assumption), (hb1.cell (p := ⟨g1 + 1, 2, none⟩) (by show g1 + 1 < _; omega)).trans (by assumption), (hb1.cell (p := ⟨g1 + 1, 3, none⟩) (by show g1 + 1 < _; omega)).trans (by assumption), (hb1.cell (p := ⟨g1 + 1, 4, none⟩) (by show g1 + 1 < _; omega)).trans (by assumption), (hb1.cell (p := ⟨g1 + 1, 5, none⟩) (by show g1 + 1 < _; omega)).trans (by assumption), (hb1.cell (p := ⟨g1 + 1 + 1, 0, none⟩) (by show g1 + 1 + 1 < _; omega)).trans (by assumption), (hb1.cell (p := ⟨g1 + 1 + 1, 1, none⟩) (by show g1 + 1 + 1 < _; omega)).trans (by assumption), (hb1.cell (p := ⟨g1 + 1 + 1, 2, none⟩) (by show g1 + 1 + 1 < _; omega)).trans (by assumption), (hb1.cell (p := ⟨g1 + 1 + 1, 3, none⟩) (by show g1 + 1 + 1 < _; omega)).trans (by assumption), (hb1.cell (p := ⟨g1 + 1 + 1, 4, none⟩) (by show g1 + 1 + 1 < _; omega)).trans (by assumption), (hb1.cell (p := ⟨g1 + 1 + 1, 5, none⟩) (by show g1 + 1 + 1 < _; omega)).trans (by assumption), by have := hb1.size; omega⟩))
    ((first
      | ((with_reducible refine (C1.out _).mono ?_); rintro e w2 ⟨rfl, hb1⟩)
      | ((with_reducible refine (C2.out _).mono ?_); rintro e w3 ⟨rfl, hb2⟩)
      | ((with_reducible refine (C3.out _).mono ?_); rintro e w4 ⟨rfl, hb3⟩)))
  have E4 := Lib.hid ((((E1.out.go (below_drewN (Below.refl _ w1) 1)).go hb1).go hb2).go hb3)
  clear C1 C2 C3 hb1 hb2 hb3 E1
  have f1 := sixS E4.out.one
  have f2 := sixS E4.out.two
  dsimp only at f1 f2
  go_split_ands
  have hcs : x = -1 ∨ x = 0 ∨ x = 1 := by omega
  rcases hcs with rfl | rfl | rfl
  · have hne : Hid (¬ (⟨a1, a2, a3, a4, a5, a6⟩ : St) = ⟨d1, d2, d3, d4, d5, d6⟩) := fun q => absurd (HZ.out.2 q) (by omega)
    by_cases hy : y < 0
    · have hz : ¬ 0 ≤ z := by have := HT1.out (by omega) hy; omega
      go_wp2_with ((with_reducible refine (C4.out _ _ _ _ _ _ _).mono ?_); rintro e w9 ⟨rfl, hb9⟩)
      all_goals first
        | (go_ret
           exact ⟨rfl, E4.out.bel.trans (hb9.mono E4.out.bel.size)⟩)
        | (exfalso
           apply hne.out
           simp [*]
           done)
    · have hz : (y < 0) = False := by simp; omega
      go_wp2_with ((with_reducible refine (C4.out _ _ _ _ _ _ _).mono ?_); rintro e w9 ⟨rfl, hb9⟩)
      all_goals first
        | (go_ret
           exact ⟨rfl, E4.out.bel.trans (hb9.mono E4.out.bel.size)⟩)
        | (exfalso
           apply hne.out
           simp [*]
           done)
  · have hzy := HT2.out rfl
    subst hzy
    have heq := HZ.out.1 rfl
    injection heq with q1 q2 q3 q4 q5 q6
    subst q1 q2 q3 q4 q5 q6
    have hne : Hid (¬ (0 : Int) = 0) → Hid False := fun q => absurd rfl q.out
    go_wp2_with ((with_reducible refine (C4.out _ _ _ _ _ _ _).mono ?_); rintro e w9 ⟨rfl, hb9⟩)
    all_goals first
      | (go_ret
         exact ⟨rfl, E4.out.bel.trans (hb9.mono E4.out.bel.size)⟩)
      | (exfalso
         apply hne.out
         simp [*]
         done)
  · have hne : Hid (¬ (⟨a1, a2, a3, a4, a5, a6⟩ : St) = ⟨d1, d2, d3, d4, d5, d6⟩) := fun q => absurd (HZ.out.2 q) (by omega)
    go_wp2_with ((with_reducible refine (C4.out _ _ _ _ _ _ _).mono ?_); rintro e w9 ⟨rfl, hb9⟩)
    all_goals first
      | (go_ret
         exact ⟨rfl, E4.out.bel.trans (hb9.mono E4.out.bel.size)⟩)
      | (exfalso
         apply hne.out
         simp [*]
         done)
end Go.Proofs.YtoodgbognpecjaaDoor
