/-
  LAW 17: StampOrders. No conditions (but that the table lies as the program's text lays it).
-/
import Derived.Test.YtoodgbognpecjaaDoorLaw17a
namespace Go.Proofs.YtoodgbognpecjaaDoor
open Go.RowKit
set_option maxRecDepth 1000000
set_option linter.unusedVariables false

/-- two stamps' boxes, and the table, while calls run -/
structure BEnv (w : World) (g1 g2 : Nat) (a b : St) (W : World) : Prop where
  bel : Below w.heap.size w W
  one : Blk W g1 23 (stC a)
  two : Blk W g2 23 (stC b)
  tab : TabM W
theorem BEnv.go {w W W' : World} {g1 g2 : Nat} {a b : St} (h : BEnv w g1 g2 a b W) (hb : Below W.heap.size W W') : BEnv w g1 g2 a b W' := ⟨h.bel.trans (hb.mono h.bel.size), h.one.below h.one.lt hb, h.two.below h.two.lt hb, h.tab.below hb⟩
theorem BEnv.alloc {w W : World} {g1 g2 : Nat} {a b : St} (h : BEnv w g1 g2 a b W) (o : Obj) : BEnv w g1 g2 a b (W.alloc o) := h.go ((Below.refl _ _).alloc (Nat.le_refl _) o)
theorem BEnv.new {w : World} (a b : St) (ht : TabM w) : BEnv w w.heap.size (w.heap.size + 1) a b ((w.alloc (.cells (stC a) 23)).alloc (.cells (stC b) 23)) := by
  have k1 := Blk.new w 23 (stC a)
  have k2 := Blk.new (w.alloc (.cells (stC a) 23)) 23 (stC b)
  rw [World.size_alloc] at k2
  exact ⟨((Below.refl w.heap.size w).alloc (Nat.le_refl _) _).alloc (by simp) _, k1.below k1.lt ((Below.refl _ _).alloc (Nat.le_refl _) _), k2, (ht.alloc _).alloc _⟩
theorem sixC {W : World} {g : Nat} {t : St} (h : Blk W g 23 (stC t)) : W.cell? ⟨g, 0, none⟩ = some (.int .i64 t.y) ∧ W.cell? ⟨g, 1, none⟩ = some (.int .i64 t.mo) ∧ W.cell? ⟨g, 2, none⟩ = some (.int .i64 t.d) ∧ W.cell? ⟨g, 3, none⟩ = some (.int .i64 t.h) ∧ W.cell? ⟨g, 4, none⟩ = some (.int .i64 t.mi) ∧ W.cell? ⟨g, 5, none⟩ = some (.int .i64 t.s) := sixS h
/-- what Pack answers -/
def pkV (t : St) : Value := if okP t then .tuple #[.int .u16 (datN t : Nat), .int .u16 (timN t : Nat), .int .i64 0] else .tuple #[.int .u16 0, .int .u16 0, .int .i64 41]
theorem PackV_c (t : St) (hy : (Lit.int .i64 t.y).wf = true) (w : World) (ht : TabM w) : Calls Tryd.prog 9 #[stV t] w fun e w' => e = .returned (pkV t) ∧ Below w.heap.size w w' := by
  unfold pkV
  by_cases h : okP t
  · rw [if_pos h]; exact Pack_yes t h hy w ht
  · rw [if_neg h]; exact Pack_no t h hy w ht
theorem unSt_y (d m : Nat) (hd : d < 65536) : (Lit.int .i64 (unSt d m).y).wf = true := by
  show (Lit.int .i64 (1980 + ((d / 512 : Nat) : Int))).wf = true
  rw [show 1980 + ((d / 512 : Nat) : Int) = ((1980 + d / 512 : Nat) : Int) by omega]
  exact wfI _ (by omega)
set_option maxHeartbeats 8000000 in
theorem ord_yyy (a : St) (ha : StW a) (b : St) (hb : StW b) (d m : Nat) (hd : d < 65536) (hm : m < 65536) (oka : okP a) (okb : okP b) (okd : okP (unSt d m)) (w : World) (ht : TabM w) :
    Calls Tryd.prog 4 #[stV a, stV b, .int .u16 d, .int .u16 m] w fun e w' => e = .returned (.bool true) ∧ Below w.heap.size w w' := by
  have C1 := fun W => CompareS_c a b W
  have C2 := fun W => CompareS_c b a W
  rw [cmpS_neg] at C2
  have R1 := fun W => RefCompareS_c a b ha hb W
  have P1 := fun W hW => PackV_c a ha.y W hW
  have P2 := fun W hW => PackV_c b hb.y W hW
  have U2 := fun W hW => Unpack_c d m hd hm W hW
  unfold pkV at P1 P2
  rw [if_pos oka] at P1
  rw [if_pos okb] at P2
  unfold unV at U2
  rw [if_pos okd] at U2
  have U1 := fun W hW => Unpack_c (datN a) (timN a) (datN_lt oka.six) (timN_lt oka.six) W hW
  unfold unV at U1
  rw [un_pack oka.six, if_pos oka] at U1
  have bd := datN_lt oka.six
  have bm := timN_lt oka.six
  have bx := datN_lt okb.six
  have by_ := timN_lt okb.six
  have hcp := cmpS_pack oka.six okb.six
  have P3 := fun W hW => PackV_c (unSt d m) (unSt_y d m hd) W hW
  unfold pkV at P3
  rw [if_pos okd, pack_un.1, pack_un.2] at P3
  have bc := cmpS_bd a b
  obtain ⟨bc1, bc2⟩ := bc
  have E0' := BEnv.new (w := w) a b ht
  generalize cmpS a b = c at *
  generalize datN a = D at *
  generalize timN a = M at *
  generalize datN b = X at *
  generalize timN b = Y at *
  obtain ⟨a1, a2, a3, a4, a5, a6⟩ := a
  obtain ⟨b1, b2, b3, b4, b5, b6⟩ := b
  generalize unSt d m = u at *
  obtain ⟨u1, u2, u3, u4, u5, u6⟩ := u
  unfold stV at C1 C2 R1 P1 P2 U2 P3 U1 ⊢
  unfold stC at E0'
  dsimp only [st0] at C1 C2 R1 P1 P2 U2 P3 U1 E0' ⊢
  have HC1 := Lib.hid C1
  have HC2 := Lib.hid C2
  have HR1 := Lib.hid R1
  have HP1 := Lib.hid P1
  have HP2 := Lib.hid P2
  have HU2 := Lib.hid U2
  have HP3 := Lib.hid P3
  have HU1 := Lib.hid U1
  have E0 := Lib.hid E0'
  have HCP := Lib.hid hcp
  clear C1 C2 R1 P1 P2 U2 P3 U1 E0' oka okb okd ha hb ht hcp
  have hcc : (c != c) = false := by simp
  have hcn : (-c != -c) = false := by simp
  have hcs : (c < 0 ∧ D < X) ∨ (c < 0 ∧ D = X ∧ M < Y) ∨ (¬ c < 0 ∧ X < D) ∨ (¬ c < 0 ∧ D = X ∧ ¬ M < Y) := by have := HCP.out; omega
  rcases hcs with ⟨g1, g2⟩ | ⟨g1, rfl, g4⟩ | ⟨g1, g2⟩ | ⟨g1, rfl, g4⟩
  · have z0 : True := trivial
    have q1 : decide (c < 0) = true := by exact decide_eq_true g1
    have q2 : decide ((D : Int) < (X : Int)) = true := by exact decide_eq_true (by omega)
    have q3 : decide (D < X) = true := by exact decide_eq_true g2
    go_enter Tryd.func4, Tryd.ntmps4
    go_wp2_with fail
    refine (alive17_c _ E0.out.tab).mono ?_
    rintro e w1 ⟨rfl, hb⟩
    have E1 := Lib.hid (E0.out.go hb)
    clear hb
    obtain ⟨c0, c1, c2, c3, c4, c5⟩ := sixC E1.out.one
    obtain ⟨d0, d1, d2, d3, d4, d5⟩ := sixC E1.out.two
    dsimp only at c0 c1 c2 c3 c4 c5 d0 d1 d2 d3 d4 d5
    go_wp2_with fail
    refine (HC1.out _).mono ?_
    rintro e w2 ⟨rfl, hb⟩
    have E2 := Lib.hid (E1.out.go hb)
    clear hb c0 c1 c2 c3 c4 c5 d0 d1 d2 d3 d4 d5
    obtain ⟨c0, c1, c2, c3, c4, c5⟩ := sixC E2.out.one
    obtain ⟨d0, d1, d2, d3, d4, d5⟩ := sixC E2.out.two
    dsimp only at c0 c1 c2 c3 c4 c5 d0 d1 d2 d3 d4 d5
    go_wp2_with fail
    refine (HR1.out _).mono ?_
    rintro e w3 ⟨rfl, hb⟩
    have E3 := Lib.hid (E2.out.go hb)
    clear hb c0 c1 c2 c3 c4 c5 d0 d1 d2 d3 d4 d5
    obtain ⟨c0, c1, c2, c3, c4, c5⟩ := sixC E3.out.one
    obtain ⟨d0, d1, d2, d3, d4, d5⟩ := sixC E3.out.two
    dsimp only at c0 c1 c2 c3 c4 c5 d0 d1 d2 d3 d4 d5
    go_wp2_with fail
    refine (HC2.out _).mono ?_
    rintro e w4 ⟨rfl, hb⟩
    have E4 := Lib.hid (E3.out.go hb)
    clear hb c0 c1 c2 c3 c4 c5 d0 d1 d2 d3 d4 d5
    obtain ⟨c0, c1, c2, c3, c4, c5⟩ := sixC E4.out.one
    obtain ⟨d0, d1, d2, d3, d4, d5⟩ := sixC E4.out.two
    dsimp only at c0 c1 c2 c3 c4 c5 d0 d1 d2 d3 d4 d5
    go_wp2_with fail
    refine (HP1.out _ E4.out.tab).mono ?_
    rintro e w5 ⟨rfl, hb⟩
    have E5 := Lib.hid (E4.out.go hb)
    clear hb c0 c1 c2 c3 c4 c5 d0 d1 d2 d3 d4 d5
    obtain ⟨c0, c1, c2, c3, c4, c5⟩ := sixC E5.out.one
    obtain ⟨d0, d1, d2, d3, d4, d5⟩ := sixC E5.out.two
    dsimp only at c0 c1 c2 c3 c4 c5 d0 d1 d2 d3 d4 d5
    go_wp2_with fail
    refine (HP2.out _ E5.out.tab).mono ?_
    rintro e w6 ⟨rfl, hb⟩
    have E6 := Lib.hid (E5.out.go hb)
    clear hb c0 c1 c2 c3 c4 c5 d0 d1 d2 d3 d4 d5
    obtain ⟨c0, c1, c2, c3, c4, c5⟩ := sixC E6.out.one
    obtain ⟨d0, d1, d2, d3, d4, d5⟩ := sixC E6.out.two
    dsimp only at c0 c1 c2 c3 c4 c5 d0 d1 d2 d3 d4 d5
    go_wp2_with fail
    refine (HU1.out _ E6.out.tab).mono ?_
    rintro e w7 ⟨rfl, hb⟩
    have E7 := Lib.hid (E6.out.go hb)
    clear hb c0 c1 c2 c3 c4 c5 d0 d1 d2 d3 d4 d5
    obtain ⟨c0, c1, c2, c3, c4, c5⟩ := sixC E7.out.one
    obtain ⟨d0, d1, d2, d3, d4, d5⟩ := sixC E7.out.two
    dsimp only at c0 c1 c2 c3 c4 c5 d0 d1 d2 d3 d4 d5
    have E8 := Lib.hid (E7.out.alloc (.cells #[.int .i64 a1, .int .i64 a2, .int .i64 a3, .int .i64 a4, .int .i64 a5, .int .i64 a6] 23))
    have ke := sixS (Blk.new w7 23 #[.int .i64 a1, .int .i64 a2, .int .i64 a3, .int .i64 a4, .int .i64 a5, .int .i64 a6])
    obtain ⟨e0, e1, e2, e3, e4, e5⟩ := ke
    clear c0 c1 c2 c3 c4 c5 d0 d1 d2 d3 d4 d5
    obtain ⟨c0, c1, c2, c3, c4, c5⟩ := sixC E8.out.one
    obtain ⟨d0, d1, d2, d3, d4, d5⟩ := sixC E8.out.two
    dsimp only at c0 c1 c2 c3 c4 c5 d0 d1 d2 d3 d4 d5
    go_wp2_with fail
    generalize w7.alloc (.cells #[.int .i64 a1, .int .i64 a2, .int .i64 a3, .int .i64 a4, .int .i64 a5, .int .i64 a6] 23) = w8 at *
    refine (HU2.out w8 E8.out.tab).mono ?_
    rintro e w9 ⟨rfl, hb⟩
    have E9 := Lib.hid (E8.out.go hb)
    clear hb c0 c1 c2 c3 c4 c5 d0 d1 d2 d3 d4 d5 e0 e1 e2 e3 e4 e5
    obtain ⟨c0, c1, c2, c3, c4, c5⟩ := sixC E9.out.one
    obtain ⟨d0, d1, d2, d3, d4, d5⟩ := sixC E9.out.two
    dsimp only at c0 c1 c2 c3 c4 c5 d0 d1 d2 d3 d4 d5
    have E10 := Lib.hid (E9.out.alloc (.cells #[.int .i64 u1, .int .i64 u2, .int .i64 u3, .int .i64 u4, .int .i64 u5, .int .i64 u6] 23))
    go_wp2_with fail
    generalize w9.alloc (.cells #[.int .i64 u1, .int .i64 u2, .int .i64 u3, .int .i64 u4, .int .i64 u5, .int .i64 u6] 23) = w10 at *
    refine (HP3.out w10 E10.out.tab).mono ?_
    rintro e w11 ⟨rfl, hb⟩
    have E11 := Lib.hid (E10.out.go hb)
    clear hb c0 c1 c2 c3 c4 c5 d0 d1 d2 d3 d4 d5
    go_wp2
    go_ret
    exact ⟨rfl, E11.out.bel⟩
  · have z0 : True := trivial
    have q1 : decide (c < 0) = true := by exact decide_eq_true g1
    have q2 : decide ((D : Int) < (D : Int)) = false := by exact decide_eq_false (by omega)
    have q3 : decide (D < D) = false := by exact decide_eq_false (by omega)
    have q4 : ((D : Int) == (D : Int)) = true := by simp
    have q5 : decide ((M : Int) < (Y : Int)) = true := by exact decide_eq_true (by omega)
    have q6 : decide (M < Y) = true := by exact decide_eq_true g4
    go_enter Tryd.func4, Tryd.ntmps4
    go_wp2_with fail
    refine (alive17_c _ E0.out.tab).mono ?_
    rintro e w1 ⟨rfl, hb⟩
    have E1 := Lib.hid (E0.out.go hb)
    clear hb
    obtain ⟨c0, c1, c2, c3, c4, c5⟩ := sixC E1.out.one
    obtain ⟨d0, d1, d2, d3, d4, d5⟩ := sixC E1.out.two
    dsimp only at c0 c1 c2 c3 c4 c5 d0 d1 d2 d3 d4 d5
    go_wp2_with fail
    refine (HC1.out _).mono ?_
    rintro e w2 ⟨rfl, hb⟩
    have E2 := Lib.hid (E1.out.go hb)
    clear hb c0 c1 c2 c3 c4 c5 d0 d1 d2 d3 d4 d5
    obtain ⟨c0, c1, c2, c3, c4, c5⟩ := sixC E2.out.one
    obtain ⟨d0, d1, d2, d3, d4, d5⟩ := sixC E2.out.two
    dsimp only at c0 c1 c2 c3 c4 c5 d0 d1 d2 d3 d4 d5
    go_wp2_with fail
    refine (HR1.out _).mono ?_
    rintro e w3 ⟨rfl, hb⟩
    have E3 := Lib.hid (E2.out.go hb)
    clear hb c0 c1 c2 c3 c4 c5 d0 d1 d2 d3 d4 d5
    obtain ⟨c0, c1, c2, c3, c4, c5⟩ := sixC E3.out.one
    obtain ⟨d0, d1, d2, d3, d4, d5⟩ := sixC E3.out.two
    dsimp only at c0 c1 c2 c3 c4 c5 d0 d1 d2 d3 d4 d5
    go_wp2_with fail
    refine (HC2.out _).mono ?_
    rintro e w4 ⟨rfl, hb⟩
    have E4 := Lib.hid (E3.out.go hb)
    clear hb c0 c1 c2 c3 c4 c5 d0 d1 d2 d3 d4 d5
    obtain ⟨c0, c1, c2, c3, c4, c5⟩ := sixC E4.out.one
    obtain ⟨d0, d1, d2, d3, d4, d5⟩ := sixC E4.out.two
    dsimp only at c0 c1 c2 c3 c4 c5 d0 d1 d2 d3 d4 d5
    go_wp2_with fail
    refine (HP1.out _ E4.out.tab).mono ?_
    rintro e w5 ⟨rfl, hb⟩
    have E5 := Lib.hid (E4.out.go hb)
    clear hb c0 c1 c2 c3 c4 c5 d0 d1 d2 d3 d4 d5
    obtain ⟨c0, c1, c2, c3, c4, c5⟩ := sixC E5.out.one
    obtain ⟨d0, d1, d2, d3, d4, d5⟩ := sixC E5.out.two
    dsimp only at c0 c1 c2 c3 c4 c5 d0 d1 d2 d3 d4 d5
    go_wp2_with fail
    refine (HP2.out _ E5.out.tab).mono ?_
    rintro e w6 ⟨rfl, hb⟩
    have E6 := Lib.hid (E5.out.go hb)
    clear hb c0 c1 c2 c3 c4 c5 d0 d1 d2 d3 d4 d5
    obtain ⟨c0, c1, c2, c3, c4, c5⟩ := sixC E6.out.one
    obtain ⟨d0, d1, d2, d3, d4, d5⟩ := sixC E6.out.two
    dsimp only at c0 c1 c2 c3 c4 c5 d0 d1 d2 d3 d4 d5
    go_wp2_with fail
    refine (HU1.out _ E6.out.tab).mono ?_
    rintro e w7 ⟨rfl, hb⟩
    have E7 := Lib.hid (E6.out.go hb)
    clear hb c0 c1 c2 c3 c4 c5 d0 d1 d2 d3 d4 d5
    obtain ⟨c0, c1, c2, c3, c4, c5⟩ := sixC E7.out.one
    obtain ⟨d0, d1, d2, d3, d4, d5⟩ := sixC E7.out.two
    dsimp only at c0 c1 c2 c3 c4 c5 d0 d1 d2 d3 d4 d5
    have E8 := Lib.hid (E7.out.alloc (.cells #[.int .i64 a1, .int .i64 a2, .int .i64 a3, .int .i64 a4, .int .i64 a5, .int .i64 a6] 23))
    have ke := sixS (Blk.new w7 23 #[.int .i64 a1, .int .i64 a2, .int .i64 a3, .int .i64 a4, .int .i64 a5, .int .i64 a6])
    obtain ⟨e0, e1, e2, e3, e4, e5⟩ := ke
    clear c0 c1 c2 c3 c4 c5 d0 d1 d2 d3 d4 d5
    obtain ⟨c0, c1, c2, c3, c4, c5⟩ := sixC E8.out.one
    obtain ⟨d0, d1, d2, d3, d4, d5⟩ := sixC E8.out.two
    dsimp only at c0 c1 c2 c3 c4 c5 d0 d1 d2 d3 d4 d5
    go_wp2_with fail
    generalize w7.alloc (.cells #[.int .i64 a1, .int .i64 a2, .int .i64 a3, .int .i64 a4, .int .i64 a5, .int .i64 a6] 23) = w8 at *
    refine (HU2.out w8 E8.out.tab).mono ?_
    rintro e w9 ⟨rfl, hb⟩
    have E9 := Lib.hid (E8.out.go hb)
    clear hb c0 c1 c2 c3 c4 c5 d0 d1 d2 d3 d4 d5 e0 e1 e2 e3 e4 e5
    obtain ⟨c0, c1, c2, c3, c4, c5⟩ := sixC E9.out.one
    obtain ⟨d0, d1, d2, d3, d4, d5⟩ := sixC E9.out.two
    dsimp only at c0 c1 c2 c3 c4 c5 d0 d1 d2 d3 d4 d5
    have E10 := Lib.hid (E9.out.alloc (.cells #[.int .i64 u1, .int .i64 u2, .int .i64 u3, .int .i64 u4, .int .i64 u5, .int .i64 u6] 23))
    go_wp2_with fail
    generalize w9.alloc (.cells #[.int .i64 u1, .int .i64 u2, .int .i64 u3, .int .i64 u4, .int .i64 u5, .int .i64 u6] 23) = w10 at *
    refine (HP3.out w10 E10.out.tab).mono ?_
    rintro e w11 ⟨rfl, hb⟩
    have E11 := Lib.hid (E10.out.go hb)
    clear hb c0 c1 c2 c3 c4 c5 d0 d1 d2 d3 d4 d5
    go_wp2
    go_ret
    exact ⟨rfl, E11.out.bel⟩
  · have z0 : True := trivial
    have q1 : decide (c < 0) = false := by exact decide_eq_false g1
    have q2 : decide ((D : Int) < (X : Int)) = false := by exact decide_eq_false (by omega)
    have q3 : decide (D < X) = false := by exact decide_eq_false (by omega)
    have q4 : ((D : Int) == (X : Int)) = false := by rw [beq_eq_false_iff_ne]; omega
    go_enter Tryd.func4, Tryd.ntmps4
    go_wp2_with fail
    refine (alive17_c _ E0.out.tab).mono ?_
    rintro e w1 ⟨rfl, hb⟩
    have E1 := Lib.hid (E0.out.go hb)
    clear hb
    obtain ⟨c0, c1, c2, c3, c4, c5⟩ := sixC E1.out.one
    obtain ⟨d0, d1, d2, d3, d4, d5⟩ := sixC E1.out.two
    dsimp only at c0 c1 c2 c3 c4 c5 d0 d1 d2 d3 d4 d5
    go_wp2_with fail
    refine (HC1.out _).mono ?_
    rintro e w2 ⟨rfl, hb⟩
    have E2 := Lib.hid (E1.out.go hb)
    clear hb c0 c1 c2 c3 c4 c5 d0 d1 d2 d3 d4 d5
    obtain ⟨c0, c1, c2, c3, c4, c5⟩ := sixC E2.out.one
    obtain ⟨d0, d1, d2, d3, d4, d5⟩ := sixC E2.out.two
    dsimp only at c0 c1 c2 c3 c4 c5 d0 d1 d2 d3 d4 d5
    go_wp2_with fail
    refine (HR1.out _).mono ?_
    rintro e w3 ⟨rfl, hb⟩
    have E3 := Lib.hid (E2.out.go hb)
    clear hb c0 c1 c2 c3 c4 c5 d0 d1 d2 d3 d4 d5
    obtain ⟨c0, c1, c2, c3, c4, c5⟩ := sixC E3.out.one
    obtain ⟨d0, d1, d2, d3, d4, d5⟩ := sixC E3.out.two
    dsimp only at c0 c1 c2 c3 c4 c5 d0 d1 d2 d3 d4 d5
    go_wp2_with fail
    refine (HC2.out _).mono ?_
    rintro e w4 ⟨rfl, hb⟩
    have E4 := Lib.hid (E3.out.go hb)
    clear hb c0 c1 c2 c3 c4 c5 d0 d1 d2 d3 d4 d5
    obtain ⟨c0, c1, c2, c3, c4, c5⟩ := sixC E4.out.one
    obtain ⟨d0, d1, d2, d3, d4, d5⟩ := sixC E4.out.two
    dsimp only at c0 c1 c2 c3 c4 c5 d0 d1 d2 d3 d4 d5
    go_wp2_with fail
    refine (HP1.out _ E4.out.tab).mono ?_
    rintro e w5 ⟨rfl, hb⟩
    have E5 := Lib.hid (E4.out.go hb)
    clear hb c0 c1 c2 c3 c4 c5 d0 d1 d2 d3 d4 d5
    obtain ⟨c0, c1, c2, c3, c4, c5⟩ := sixC E5.out.one
    obtain ⟨d0, d1, d2, d3, d4, d5⟩ := sixC E5.out.two
    dsimp only at c0 c1 c2 c3 c4 c5 d0 d1 d2 d3 d4 d5
    go_wp2_with fail
    refine (HP2.out _ E5.out.tab).mono ?_
    rintro e w6 ⟨rfl, hb⟩
    have E6 := Lib.hid (E5.out.go hb)
    clear hb c0 c1 c2 c3 c4 c5 d0 d1 d2 d3 d4 d5
    obtain ⟨c0, c1, c2, c3, c4, c5⟩ := sixC E6.out.one
    obtain ⟨d0, d1, d2, d3, d4, d5⟩ := sixC E6.out.two
    dsimp only at c0 c1 c2 c3 c4 c5 d0 d1 d2 d3 d4 d5
    go_wp2_with fail
    refine (HU1.out _ E6.out.tab).mono ?_
    rintro e w7 ⟨rfl, hb⟩
    have E7 := Lib.hid (E6.out.go hb)
    clear hb c0 c1 c2 c3 c4 c5 d0 d1 d2 d3 d4 d5
    obtain ⟨c0, c1, c2, c3, c4, c5⟩ := sixC E7.out.one
    obtain ⟨d0, d1, d2, d3, d4, d5⟩ := sixC E7.out.two
    dsimp only at c0 c1 c2 c3 c4 c5 d0 d1 d2 d3 d4 d5
    have E8 := Lib.hid (E7.out.alloc (.cells #[.int .i64 a1, .int .i64 a2, .int .i64 a3, .int .i64 a4, .int .i64 a5, .int .i64 a6] 23))
    have ke := sixS (Blk.new w7 23 #[.int .i64 a1, .int .i64 a2, .int .i64 a3, .int .i64 a4, .int .i64 a5, .int .i64 a6])
    obtain ⟨e0, e1, e2, e3, e4, e5⟩ := ke
    clear c0 c1 c2 c3 c4 c5 d0 d1 d2 d3 d4 d5
    obtain ⟨c0, c1, c2, c3, c4, c5⟩ := sixC E8.out.one
    obtain ⟨d0, d1, d2, d3, d4, d5⟩ := sixC E8.out.two
    dsimp only at c0 c1 c2 c3 c4 c5 d0 d1 d2 d3 d4 d5
    go_wp2_with fail
    generalize w7.alloc (.cells #[.int .i64 a1, .int .i64 a2, .int .i64 a3, .int .i64 a4, .int .i64 a5, .int .i64 a6] 23) = w8 at *
    refine (HU2.out w8 E8.out.tab).mono ?_
    rintro e w9 ⟨rfl, hb⟩
    have E9 := Lib.hid (E8.out.go hb)
    clear hb c0 c1 c2 c3 c4 c5 d0 d1 d2 d3 d4 d5 e0 e1 e2 e3 e4 e5
    obtain ⟨c0, c1, c2, c3, c4, c5⟩ := sixC E9.out.one
    obtain ⟨d0, d1, d2, d3, d4, d5⟩ := sixC E9.out.two
    dsimp only at c0 c1 c2 c3 c4 c5 d0 d1 d2 d3 d4 d5
    have E10 := Lib.hid (E9.out.alloc (.cells #[.int .i64 u1, .int .i64 u2, .int .i64 u3, .int .i64 u4, .int .i64 u5, .int .i64 u6] 23))
    go_wp2_with fail
    generalize w9.alloc (.cells #[.int .i64 u1, .int .i64 u2, .int .i64 u3, .int .i64 u4, .int .i64 u5, .int .i64 u6] 23) = w10 at *
    refine (HP3.out w10 E10.out.tab).mono ?_
    rintro e w11 ⟨rfl, hb⟩
    have E11 := Lib.hid (E10.out.go hb)
    clear hb c0 c1 c2 c3 c4 c5 d0 d1 d2 d3 d4 d5
    go_wp2
    go_ret
    exact ⟨rfl, E11.out.bel⟩
  · have z0 : True := trivial
    have q1 : decide (c < 0) = false := by exact decide_eq_false g1
    have q2 : decide ((D : Int) < (D : Int)) = false := by exact decide_eq_false (by omega)
    have q3 : decide (D < D) = false := by exact decide_eq_false (by omega)
    have q4 : ((D : Int) == (D : Int)) = true := by simp
    have q5 : decide ((M : Int) < (Y : Int)) = false := by exact decide_eq_false (by omega)
    have q6 : decide (M < Y) = false := by exact decide_eq_false g4
    go_enter Tryd.func4, Tryd.ntmps4
    go_wp2_with fail
    refine (alive17_c _ E0.out.tab).mono ?_
    rintro e w1 ⟨rfl, hb⟩
    have E1 := Lib.hid (E0.out.go hb)
    clear hb
    obtain ⟨c0, c1, c2, c3, c4, c5⟩ := sixC E1.out.one
    obtain ⟨d0, d1, d2, d3, d4, d5⟩ := sixC E1.out.two
    dsimp only at c0 c1 c2 c3 c4 c5 d0 d1 d2 d3 d4 d5
    go_wp2_with fail
    refine (HC1.out _).mono ?_
    rintro e w2 ⟨rfl, hb⟩
    have E2 := Lib.hid (E1.out.go hb)
    clear hb c0 c1 c2 c3 c4 c5 d0 d1 d2 d3 d4 d5
    obtain ⟨c0, c1, c2, c3, c4, c5⟩ := sixC E2.out.one
    obtain ⟨d0, d1, d2, d3, d4, d5⟩ := sixC E2.out.two
    dsimp only at c0 c1 c2 c3 c4 c5 d0 d1 d2 d3 d4 d5
    go_wp2_with fail
    refine (HR1.out _).mono ?_
    rintro e w3 ⟨rfl, hb⟩
    have E3 := Lib.hid (E2.out.go hb)
    clear hb c0 c1 c2 c3 c4 c5 d0 d1 d2 d3 d4 d5
    obtain ⟨c0, c1, c2, c3, c4, c5⟩ := sixC E3.out.one
    obtain ⟨d0, d1, d2, d3, d4, d5⟩ := sixC E3.out.two
    dsimp only at c0 c1 c2 c3 c4 c5 d0 d1 d2 d3 d4 d5
    go_wp2_with fail
    refine (HC2.out _).mono ?_
    rintro e w4 ⟨rfl, hb⟩
    have E4 := Lib.hid (E3.out.go hb)
    clear hb c0 c1 c2 c3 c4 c5 d0 d1 d2 d3 d4 d5
    obtain ⟨c0, c1, c2, c3, c4, c5⟩ := sixC E4.out.one
    obtain ⟨d0, d1, d2, d3, d4, d5⟩ := sixC E4.out.two
    dsimp only at c0 c1 c2 c3 c4 c5 d0 d1 d2 d3 d4 d5
    go_wp2_with fail
    refine (HP1.out _ E4.out.tab).mono ?_
    rintro e w5 ⟨rfl, hb⟩
    have E5 := Lib.hid (E4.out.go hb)
    clear hb c0 c1 c2 c3 c4 c5 d0 d1 d2 d3 d4 d5
    obtain ⟨c0, c1, c2, c3, c4, c5⟩ := sixC E5.out.one
    obtain ⟨d0, d1, d2, d3, d4, d5⟩ := sixC E5.out.two
    dsimp only at c0 c1 c2 c3 c4 c5 d0 d1 d2 d3 d4 d5
    go_wp2_with fail
    refine (HP2.out _ E5.out.tab).mono ?_
    rintro e w6 ⟨rfl, hb⟩
    have E6 := Lib.hid (E5.out.go hb)
    clear hb c0 c1 c2 c3 c4 c5 d0 d1 d2 d3 d4 d5
    obtain ⟨c0, c1, c2, c3, c4, c5⟩ := sixC E6.out.one
    obtain ⟨d0, d1, d2, d3, d4, d5⟩ := sixC E6.out.two
    dsimp only at c0 c1 c2 c3 c4 c5 d0 d1 d2 d3 d4 d5
    go_wp2_with fail
    refine (HU1.out _ E6.out.tab).mono ?_
    rintro e w7 ⟨rfl, hb⟩
    have E7 := Lib.hid (E6.out.go hb)
    clear hb c0 c1 c2 c3 c4 c5 d0 d1 d2 d3 d4 d5
    obtain ⟨c0, c1, c2, c3, c4, c5⟩ := sixC E7.out.one
    obtain ⟨d0, d1, d2, d3, d4, d5⟩ := sixC E7.out.two
    dsimp only at c0 c1 c2 c3 c4 c5 d0 d1 d2 d3 d4 d5
    have E8 := Lib.hid (E7.out.alloc (.cells #[.int .i64 a1, .int .i64 a2, .int .i64 a3, .int .i64 a4, .int .i64 a5, .int .i64 a6] 23))
    have ke := sixS (Blk.new w7 23 #[.int .i64 a1, .int .i64 a2, .int .i64 a3, .int .i64 a4, .int .i64 a5, .int .i64 a6])
    obtain ⟨e0, e1, e2, e3, e4, e5⟩ := ke
    clear c0 c1 c2 c3 c4 c5 d0 d1 d2 d3 d4 d5
    obtain ⟨c0, c1, c2, c3, c4, c5⟩ := sixC E8.out.one
    obtain ⟨d0, d1, d2, d3, d4, d5⟩ := sixC E8.out.two
    dsimp only at c0 c1 c2 c3 c4 c5 d0 d1 d2 d3 d4 d5
    go_wp2_with fail
    generalize w7.alloc (.cells #[.int .i64 a1, .int .i64 a2, .int .i64 a3, .int .i64 a4, .int .i64 a5, .int .i64 a6] 23) = w8 at *
    refine (HU2.out w8 E8.out.tab).mono ?_
    rintro e w9 ⟨rfl, hb⟩
    have E9 := Lib.hid (E8.out.go hb)
    clear hb c0 c1 c2 c3 c4 c5 d0 d1 d2 d3 d4 d5 e0 e1 e2 e3 e4 e5
    obtain ⟨c0, c1, c2, c3, c4, c5⟩ := sixC E9.out.one
    obtain ⟨d0, d1, d2, d3, d4, d5⟩ := sixC E9.out.two
    dsimp only at c0 c1 c2 c3 c4 c5 d0 d1 d2 d3 d4 d5
    have E10 := Lib.hid (E9.out.alloc (.cells #[.int .i64 u1, .int .i64 u2, .int .i64 u3, .int .i64 u4, .int .i64 u5, .int .i64 u6] 23))
    go_wp2_with fail
    generalize w9.alloc (.cells #[.int .i64 u1, .int .i64 u2, .int .i64 u3, .int .i64 u4, .int .i64 u5, .int .i64 u6] 23) = w10 at *
    refine (HP3.out w10 E10.out.tab).mono ?_
    rintro e w11 ⟨rfl, hb⟩
    have E11 := Lib.hid (E10.out.go hb)
    clear hb c0 c1 c2 c3 c4 c5 d0 d1 d2 d3 d4 d5
    go_wp2
    go_ret
    exact ⟨rfl, E11.out.bel⟩
set_option maxHeartbeats 8000000 in
theorem ord_yyn (a : St) (ha : StW a) (b : St) (hb : StW b) (d m : Nat) (hd : d < 65536) (hm : m < 65536) (oka : okP a) (okb : okP b) (okd : ¬ okP (unSt d m)) (w : World) (ht : TabM w) :
    Calls Tryd.prog 4 #[stV a, stV b, .int .u16 d, .int .u16 m] w fun e w' => e = .returned (.bool true) ∧ Below w.heap.size w w' := by
  have C1 := fun W => CompareS_c a b W
  have C2 := fun W => CompareS_c b a W
  rw [cmpS_neg] at C2
  have R1 := fun W => RefCompareS_c a b ha hb W
  have P1 := fun W hW => PackV_c a ha.y W hW
  have P2 := fun W hW => PackV_c b hb.y W hW
  have U2 := fun W hW => Unpack_c d m hd hm W hW
  unfold pkV at P1 P2
  rw [if_pos oka] at P1
  rw [if_pos okb] at P2
  unfold unV at U2
  rw [if_neg okd] at U2
  have U1 := fun W hW => Unpack_c (datN a) (timN a) (datN_lt oka.six) (timN_lt oka.six) W hW
  unfold unV at U1
  rw [un_pack oka.six, if_pos oka] at U1
  have bd := datN_lt oka.six
  have bm := timN_lt oka.six
  have bx := datN_lt okb.six
  have by_ := timN_lt okb.six
  have hcp := cmpS_pack oka.six okb.six
  have P3 := fun W hW => PackV_c st0 (by rfl) W hW
  unfold pkV at P3
  rw [if_neg (by decide)] at P3
  have bc := cmpS_bd a b
  obtain ⟨bc1, bc2⟩ := bc
  have E0' := BEnv.new (w := w) a b ht
  generalize cmpS a b = c at *
  generalize datN a = D at *
  generalize timN a = M at *
  generalize datN b = X at *
  generalize timN b = Y at *
  obtain ⟨a1, a2, a3, a4, a5, a6⟩ := a
  obtain ⟨b1, b2, b3, b4, b5, b6⟩ := b
  unfold stV at C1 C2 R1 P1 P2 U2 P3 U1 ⊢
  unfold stC at E0'
  dsimp only [st0] at C1 C2 R1 P1 P2 U2 P3 U1 E0' ⊢
  have HC1 := Lib.hid C1
  have HC2 := Lib.hid C2
  have HR1 := Lib.hid R1
  have HP1 := Lib.hid P1
  have HP2 := Lib.hid P2
  have HU2 := Lib.hid U2
  have HP3 := Lib.hid P3
  have HU1 := Lib.hid U1
  have E0 := Lib.hid E0'
  have HCP := Lib.hid hcp
  clear C1 C2 R1 P1 P2 U2 P3 U1 E0' oka okb okd ha hb ht hcp
  have hcc : (c != c) = false := by simp
  have hcn : (-c != -c) = false := by simp
  have hcs : (c < 0 ∧ D < X) ∨ (c < 0 ∧ D = X ∧ M < Y) ∨ (¬ c < 0 ∧ X < D) ∨ (¬ c < 0 ∧ D = X ∧ ¬ M < Y) := by have := HCP.out; omega
  rcases hcs with ⟨g1, g2⟩ | ⟨g1, rfl, g4⟩ | ⟨g1, g2⟩ | ⟨g1, rfl, g4⟩
  · have z0 : True := trivial
    have q1 : decide (c < 0) = true := by exact decide_eq_true g1
    have q2 : decide ((D : Int) < (X : Int)) = true := by exact decide_eq_true (by omega)
    have q3 : decide (D < X) = true := by exact decide_eq_true g2
    go_enter Tryd.func4, Tryd.ntmps4
    go_wp2_with fail
    refine (alive17_c _ E0.out.tab).mono ?_
    rintro e w1 ⟨rfl, hb⟩
    have E1 := Lib.hid (E0.out.go hb)
    clear hb
    obtain ⟨c0, c1, c2, c3, c4, c5⟩ := sixC E1.out.one
    obtain ⟨d0, d1, d2, d3, d4, d5⟩ := sixC E1.out.two
    dsimp only at c0 c1 c2 c3 c4 c5 d0 d1 d2 d3 d4 d5
    go_wp2_with fail
    refine (HC1.out _).mono ?_
    rintro e w2 ⟨rfl, hb⟩
    have E2 := Lib.hid (E1.out.go hb)
    clear hb c0 c1 c2 c3 c4 c5 d0 d1 d2 d3 d4 d5
    obtain ⟨c0, c1, c2, c3, c4, c5⟩ := sixC E2.out.one
    obtain ⟨d0, d1, d2, d3, d4, d5⟩ := sixC E2.out.two
    dsimp only at c0 c1 c2 c3 c4 c5 d0 d1 d2 d3 d4 d5
    go_wp2_with fail
    refine (HR1.out _).mono ?_
    rintro e w3 ⟨rfl, hb⟩
    have E3 := Lib.hid (E2.out.go hb)
    clear hb c0 c1 c2 c3 c4 c5 d0 d1 d2 d3 d4 d5
    obtain ⟨c0, c1, c2, c3, c4, c5⟩ := sixC E3.out.one
    obtain ⟨d0, d1, d2, d3, d4, d5⟩ := sixC E3.out.two
    dsimp only at c0 c1 c2 c3 c4 c5 d0 d1 d2 d3 d4 d5
    go_wp2_with fail
    refine (HC2.out _).mono ?_
    rintro e w4 ⟨rfl, hb⟩
    have E4 := Lib.hid (E3.out.go hb)
    clear hb c0 c1 c2 c3 c4 c5 d0 d1 d2 d3 d4 d5
    obtain ⟨c0, c1, c2, c3, c4, c5⟩ := sixC E4.out.one
    obtain ⟨d0, d1, d2, d3, d4, d5⟩ := sixC E4.out.two
    dsimp only at c0 c1 c2 c3 c4 c5 d0 d1 d2 d3 d4 d5
    go_wp2_with fail
    refine (HP1.out _ E4.out.tab).mono ?_
    rintro e w5 ⟨rfl, hb⟩
    have E5 := Lib.hid (E4.out.go hb)
    clear hb c0 c1 c2 c3 c4 c5 d0 d1 d2 d3 d4 d5
    obtain ⟨c0, c1, c2, c3, c4, c5⟩ := sixC E5.out.one
    obtain ⟨d0, d1, d2, d3, d4, d5⟩ := sixC E5.out.two
    dsimp only at c0 c1 c2 c3 c4 c5 d0 d1 d2 d3 d4 d5
    go_wp2_with fail
    refine (HP2.out _ E5.out.tab).mono ?_
    rintro e w6 ⟨rfl, hb⟩
    have E6 := Lib.hid (E5.out.go hb)
    clear hb c0 c1 c2 c3 c4 c5 d0 d1 d2 d3 d4 d5
    obtain ⟨c0, c1, c2, c3, c4, c5⟩ := sixC E6.out.one
    obtain ⟨d0, d1, d2, d3, d4, d5⟩ := sixC E6.out.two
    dsimp only at c0 c1 c2 c3 c4 c5 d0 d1 d2 d3 d4 d5
    go_wp2_with fail
    refine (HU1.out _ E6.out.tab).mono ?_
    rintro e w7 ⟨rfl, hb⟩
    have E7 := Lib.hid (E6.out.go hb)
    clear hb c0 c1 c2 c3 c4 c5 d0 d1 d2 d3 d4 d5
    obtain ⟨c0, c1, c2, c3, c4, c5⟩ := sixC E7.out.one
    obtain ⟨d0, d1, d2, d3, d4, d5⟩ := sixC E7.out.two
    dsimp only at c0 c1 c2 c3 c4 c5 d0 d1 d2 d3 d4 d5
    have E8 := Lib.hid (E7.out.alloc (.cells #[.int .i64 a1, .int .i64 a2, .int .i64 a3, .int .i64 a4, .int .i64 a5, .int .i64 a6] 23))
    have ke := sixS (Blk.new w7 23 #[.int .i64 a1, .int .i64 a2, .int .i64 a3, .int .i64 a4, .int .i64 a5, .int .i64 a6])
    obtain ⟨e0, e1, e2, e3, e4, e5⟩ := ke
    clear c0 c1 c2 c3 c4 c5 d0 d1 d2 d3 d4 d5
    obtain ⟨c0, c1, c2, c3, c4, c5⟩ := sixC E8.out.one
    obtain ⟨d0, d1, d2, d3, d4, d5⟩ := sixC E8.out.two
    dsimp only at c0 c1 c2 c3 c4 c5 d0 d1 d2 d3 d4 d5
    go_wp2_with fail
    generalize w7.alloc (.cells #[.int .i64 a1, .int .i64 a2, .int .i64 a3, .int .i64 a4, .int .i64 a5, .int .i64 a6] 23) = w8 at *
    refine (HU2.out w8 E8.out.tab).mono ?_
    rintro e w9 ⟨rfl, hb⟩
    have E9 := Lib.hid (E8.out.go hb)
    clear hb c0 c1 c2 c3 c4 c5 d0 d1 d2 d3 d4 d5 e0 e1 e2 e3 e4 e5
    obtain ⟨c0, c1, c2, c3, c4, c5⟩ := sixC E9.out.one
    obtain ⟨d0, d1, d2, d3, d4, d5⟩ := sixC E9.out.two
    dsimp only at c0 c1 c2 c3 c4 c5 d0 d1 d2 d3 d4 d5
    have E10 := Lib.hid (E9.out.alloc (.cells #[.int .i64 0, .int .i64 0, .int .i64 0, .int .i64 0, .int .i64 0, .int .i64 0] 23))
    go_wp2_with fail
    generalize w9.alloc (.cells #[.int .i64 0, .int .i64 0, .int .i64 0, .int .i64 0, .int .i64 0, .int .i64 0] 23) = w10 at *
    refine (HP3.out w10 E10.out.tab).mono ?_
    rintro e w11 ⟨rfl, hb⟩
    have E11 := Lib.hid (E10.out.go hb)
    clear hb c0 c1 c2 c3 c4 c5 d0 d1 d2 d3 d4 d5
    go_wp2
    go_ret
    exact ⟨rfl, E11.out.bel⟩
  · have z0 : True := trivial
    have q1 : decide (c < 0) = true := by exact decide_eq_true g1
    have q2 : decide ((D : Int) < (D : Int)) = false := by exact decide_eq_false (by omega)
    have q3 : decide (D < D) = false := by exact decide_eq_false (by omega)
    have q4 : ((D : Int) == (D : Int)) = true := by simp
    have q5 : decide ((M : Int) < (Y : Int)) = true := by exact decide_eq_true (by omega)
    have q6 : decide (M < Y) = true := by exact decide_eq_true g4
    go_enter Tryd.func4, Tryd.ntmps4
    go_wp2_with fail
    refine (alive17_c _ E0.out.tab).mono ?_
    rintro e w1 ⟨rfl, hb⟩
    have E1 := Lib.hid (E0.out.go hb)
    clear hb
    obtain ⟨c0, c1, c2, c3, c4, c5⟩ := sixC E1.out.one
    obtain ⟨d0, d1, d2, d3, d4, d5⟩ := sixC E1.out.two
    dsimp only at c0 c1 c2 c3 c4 c5 d0 d1 d2 d3 d4 d5
    go_wp2_with fail
    refine (HC1.out _).mono ?_
    rintro e w2 ⟨rfl, hb⟩
    have E2 := Lib.hid (E1.out.go hb)
    clear hb c0 c1 c2 c3 c4 c5 d0 d1 d2 d3 d4 d5
    obtain ⟨c0, c1, c2, c3, c4, c5⟩ := sixC E2.out.one
    obtain ⟨d0, d1, d2, d3, d4, d5⟩ := sixC E2.out.two
    dsimp only at c0 c1 c2 c3 c4 c5 d0 d1 d2 d3 d4 d5
    go_wp2_with fail
    refine (HR1.out _).mono ?_
    rintro e w3 ⟨rfl, hb⟩
    have E3 := Lib.hid (E2.out.go hb)
    clear hb c0 c1 c2 c3 c4 c5 d0 d1 d2 d3 d4 d5
    obtain ⟨c0, c1, c2, c3, c4, c5⟩ := sixC E3.out.one
    obtain ⟨d0, d1, d2, d3, d4, d5⟩ := sixC E3.out.two
    dsimp only at c0 c1 c2 c3 c4 c5 d0 d1 d2 d3 d4 d5
    go_wp2_with fail
    refine (HC2.out _).mono ?_
    rintro e w4 ⟨rfl, hb⟩
    have E4 := Lib.hid (E3.out.go hb)
    clear hb c0 c1 c2 c3 c4 c5 d0 d1 d2 d3 d4 d5
    obtain ⟨c0, c1, c2, c3, c4, c5⟩ := sixC E4.out.one
    obtain ⟨d0, d1, d2, d3, d4, d5⟩ := sixC E4.out.two
    dsimp only at c0 c1 c2 c3 c4 c5 d0 d1 d2 d3 d4 d5
    go_wp2_with fail
    refine (HP1.out _ E4.out.tab).mono ?_
    rintro e w5 ⟨rfl, hb⟩
    have E5 := Lib.hid (E4.out.go hb)
    clear hb c0 c1 c2 c3 c4 c5 d0 d1 d2 d3 d4 d5
    obtain ⟨c0, c1, c2, c3, c4, c5⟩ := sixC E5.out.one
    obtain ⟨d0, d1, d2, d3, d4, d5⟩ := sixC E5.out.two
    dsimp only at c0 c1 c2 c3 c4 c5 d0 d1 d2 d3 d4 d5
    go_wp2_with fail
    refine (HP2.out _ E5.out.tab).mono ?_
    rintro e w6 ⟨rfl, hb⟩
    have E6 := Lib.hid (E5.out.go hb)
    clear hb c0 c1 c2 c3 c4 c5 d0 d1 d2 d3 d4 d5
    obtain ⟨c0, c1, c2, c3, c4, c5⟩ := sixC E6.out.one
    obtain ⟨d0, d1, d2, d3, d4, d5⟩ := sixC E6.out.two
    dsimp only at c0 c1 c2 c3 c4 c5 d0 d1 d2 d3 d4 d5
    go_wp2_with fail
    refine (HU1.out _ E6.out.tab).mono ?_
    rintro e w7 ⟨rfl, hb⟩
    have E7 := Lib.hid (E6.out.go hb)
    clear hb c0 c1 c2 c3 c4 c5 d0 d1 d2 d3 d4 d5
    obtain ⟨c0, c1, c2, c3, c4, c5⟩ := sixC E7.out.one
    obtain ⟨d0, d1, d2, d3, d4, d5⟩ := sixC E7.out.two
    dsimp only at c0 c1 c2 c3 c4 c5 d0 d1 d2 d3 d4 d5
    have E8 := Lib.hid (E7.out.alloc (.cells #[.int .i64 a1, .int .i64 a2, .int .i64 a3, .int .i64 a4, .int .i64 a5, .int .i64 a6] 23))
    have ke := sixS (Blk.new w7 23 #[.int .i64 a1, .int .i64 a2, .int .i64 a3, .int .i64 a4, .int .i64 a5, .int .i64 a6])
    obtain ⟨e0, e1, e2, e3, e4, e5⟩ := ke
    clear c0 c1 c2 c3 c4 c5 d0 d1 d2 d3 d4 d5
    obtain ⟨c0, c1, c2, c3, c4, c5⟩ := sixC E8.out.one
    obtain ⟨d0, d1, d2, d3, d4, d5⟩ := sixC E8.out.two
    dsimp only at c0 c1 c2 c3 c4 c5 d0 d1 d2 d3 d4 d5
    go_wp2_with fail
    generalize w7.alloc (.cells #[.int .i64 a1, .int .i64 a2, .int .i64 a3, .int .i64 a4, .int .i64 a5, .int .i64 a6] 23) = w8 at *
    refine (HU2.out w8 E8.out.tab).mono ?_
    rintro e w9 ⟨rfl, hb⟩
    have E9 := Lib.hid (E8.out.go hb)
    clear hb c0 c1 c2 c3 c4 c5 d0 d1 d2 d3 d4 d5 e0 e1 e2 e3 e4 e5
    obtain ⟨c0, c1, c2, c3, c4, c5⟩ := sixC E9.out.one
    obtain ⟨d0, d1, d2, d3, d4, d5⟩ := sixC E9.out.two
    dsimp only at c0 c1 c2 c3 c4 c5 d0 d1 d2 d3 d4 d5
    have E10 := Lib.hid (E9.out.alloc (.cells #[.int .i64 0, .int .i64 0, .int .i64 0, .int .i64 0, .int .i64 0, .int .i64 0] 23))
    go_wp2_with fail
    generalize w9.alloc (.cells #[.int .i64 0, .int .i64 0, .int .i64 0, .int .i64 0, .int .i64 0, .int .i64 0] 23) = w10 at *
    refine (HP3.out w10 E10.out.tab).mono ?_
    rintro e w11 ⟨rfl, hb⟩
    have E11 := Lib.hid (E10.out.go hb)
    clear hb c0 c1 c2 c3 c4 c5 d0 d1 d2 d3 d4 d5
    go_wp2
    go_ret
    exact ⟨rfl, E11.out.bel⟩
  · have z0 : True := trivial
    have q1 : decide (c < 0) = false := by exact decide_eq_false g1
    have q2 : decide ((D : Int) < (X : Int)) = false := by exact decide_eq_false (by omega)
    have q3 : decide (D < X) = false := by exact decide_eq_false (by omega)
    have q4 : ((D : Int) == (X : Int)) = false := by rw [beq_eq_false_iff_ne]; omega
    go_enter Tryd.func4, Tryd.ntmps4
    go_wp2_with fail
    refine (alive17_c _ E0.out.tab).mono ?_
    rintro e w1 ⟨rfl, hb⟩
    have E1 := Lib.hid (E0.out.go hb)
    clear hb
    obtain ⟨c0, c1, c2, c3, c4, c5⟩ := sixC E1.out.one
    obtain ⟨d0, d1, d2, d3, d4, d5⟩ := sixC E1.out.two
    dsimp only at c0 c1 c2 c3 c4 c5 d0 d1 d2 d3 d4 d5
    go_wp2_with fail
    refine (HC1.out _).mono ?_
    rintro e w2 ⟨rfl, hb⟩
    have E2 := Lib.hid (E1.out.go hb)
    clear hb c0 c1 c2 c3 c4 c5 d0 d1 d2 d3 d4 d5
    obtain ⟨c0, c1, c2, c3, c4, c5⟩ := sixC E2.out.one
    obtain ⟨d0, d1, d2, d3, d4, d5⟩ := sixC E2.out.two
    dsimp only at c0 c1 c2 c3 c4 c5 d0 d1 d2 d3 d4 d5
    go_wp2_with fail
    refine (HR1.out _).mono ?_
    rintro e w3 ⟨rfl, hb⟩
    have E3 := Lib.hid (E2.out.go hb)
    clear hb c0 c1 c2 c3 c4 c5 d0 d1 d2 d3 d4 d5
    obtain ⟨c0, c1, c2, c3, c4, c5⟩ := sixC E3.out.one
    obtain ⟨d0, d1, d2, d3, d4, d5⟩ := sixC E3.out.two
    dsimp only at c0 c1 c2 c3 c4 c5 d0 d1 d2 d3 d4 d5
    go_wp2_with fail
    refine (HC2.out _).mono ?_
    rintro e w4 ⟨rfl, hb⟩
    have E4 := Lib.hid (E3.out.go hb)
    clear hb c0 c1 c2 c3 c4 c5 d0 d1 d2 d3 d4 d5
    obtain ⟨c0, c1, c2, c3, c4, c5⟩ := sixC E4.out.one
    obtain ⟨d0, d1, d2, d3, d4, d5⟩ := sixC E4.out.two
    dsimp only at c0 c1 c2 c3 c4 c5 d0 d1 d2 d3 d4 d5
    go_wp2_with fail
    refine (HP1.out _ E4.out.tab).mono ?_
    rintro e w5 ⟨rfl, hb⟩
    have E5 := Lib.hid (E4.out.go hb)
    clear hb c0 c1 c2 c3 c4 c5 d0 d1 d2 d3 d4 d5
    obtain ⟨c0, c1, c2, c3, c4, c5⟩ := sixC E5.out.one
    obtain ⟨d0, d1, d2, d3, d4, d5⟩ := sixC E5.out.two
    dsimp only at c0 c1 c2 c3 c4 c5 d0 d1 d2 d3 d4 d5
    go_wp2_with fail
    refine (HP2.out _ E5.out.tab).mono ?_
    rintro e w6 ⟨rfl, hb⟩
    have E6 := Lib.hid (E5.out.go hb)
    clear hb c0 c1 c2 c3 c4 c5 d0 d1 d2 d3 d4 d5
    obtain ⟨c0, c1, c2, c3, c4, c5⟩ := sixC E6.out.one
    obtain ⟨d0, d1, d2, d3, d4, d5⟩ := sixC E6.out.two
    dsimp only at c0 c1 c2 c3 c4 c5 d0 d1 d2 d3 d4 d5
    go_wp2_with fail
    refine (HU1.out _ E6.out.tab).mono ?_
    rintro e w7 ⟨rfl, hb⟩
    have E7 := Lib.hid (E6.out.go hb)
    clear hb c0 c1 c2 c3 c4 c5 d0 d1 d2 d3 d4 d5
    obtain ⟨c0, c1, c2, c3, c4, c5⟩ := sixC E7.out.one
    obtain ⟨d0, d1, d2, d3, d4, d5⟩ := sixC E7.out.two
    dsimp only at c0 c1 c2 c3 c4 c5 d0 d1 d2 d3 d4 d5
    have E8 := Lib.hid (E7.out.alloc (.cells #[.int .i64 a1, .int .i64 a2, .int .i64 a3, .int .i64 a4, .int .i64 a5, .int .i64 a6] 23))
    have ke := sixS (Blk.new w7 23 #[.int .i64 a1, .int .i64 a2, .int .i64 a3, .int .i64 a4, .int .i64 a5, .int .i64 a6])
    obtain ⟨e0, e1, e2, e3, e4, e5⟩ := ke
    clear c0 c1 c2 c3 c4 c5 d0 d1 d2 d3 d4 d5
    obtain ⟨c0, c1, c2, c3, c4, c5⟩ := sixC E8.out.one
    obtain ⟨d0, d1, d2, d3, d4, d5⟩ := sixC E8.out.two
    dsimp only at c0 c1 c2 c3 c4 c5 d0 d1 d2 d3 d4 d5
    go_wp2_with fail
    generalize w7.alloc (.cells #[.int .i64 a1, .int .i64 a2, .int .i64 a3, .int .i64 a4, .int .i64 a5, .int .i64 a6] 23) = w8 at *
    refine (HU2.out w8 E8.out.tab).mono ?_
    rintro e w9 ⟨rfl, hb⟩
    have E9 := Lib.hid (E8.out.go hb)
    clear hb c0 c1 c2 c3 c4 c5 d0 d1 d2 d3 d4 d5 e0 e1 e2 e3 e4 e5
    obtain ⟨c0, c1, c2, c3, c4, c5⟩ := sixC E9.out.one
    obtain ⟨d0, d1, d2, d3, d4, d5⟩ := sixC E9.out.two
    dsimp only at c0 c1 c2 c3 c4 c5 d0 d1 d2 d3 d4 d5
    have E10 := Lib.hid (E9.out.alloc (.cells #[.int .i64 0, .int .i64 0, .int .i64 0, .int .i64 0, .int .i64 0, .int .i64 0] 23))
    go_wp2_with fail
    generalize w9.alloc (.cells #[.int .i64 0, .int .i64 0, .int .i64 0, .int .i64 0, .int .i64 0, .int .i64 0] 23) = w10 at *
    refine (HP3.out w10 E10.out.tab).mono ?_
    rintro e w11 ⟨rfl, hb⟩
    have E11 := Lib.hid (E10.out.go hb)
    clear hb c0 c1 c2 c3 c4 c5 d0 d1 d2 d3 d4 d5
    go_wp2
    go_ret
    exact ⟨rfl, E11.out.bel⟩
  · have z0 : True := trivial
    have q1 : decide (c < 0) = false := by exact decide_eq_false g1
    have q2 : decide ((D : Int) < (D : Int)) = false := by exact decide_eq_false (by omega)
    have q3 : decide (D < D) = false := by exact decide_eq_false (by omega)
    have q4 : ((D : Int) == (D : Int)) = true := by simp
    have q5 : decide ((M : Int) < (Y : Int)) = false := by exact decide_eq_false (by omega)
    have q6 : decide (M < Y) = false := by exact decide_eq_false g4
    go_enter Tryd.func4, Tryd.ntmps4
    go_wp2_with fail
    refine (alive17_c _ E0.out.tab).mono ?_
    rintro e w1 ⟨rfl, hb⟩
    have E1 := Lib.hid (E0.out.go hb)
    clear hb
    obtain ⟨c0, c1, c2, c3, c4, c5⟩ := sixC E1.out.one
    obtain ⟨d0, d1, d2, d3, d4, d5⟩ := sixC E1.out.two
    dsimp only at c0 c1 c2 c3 c4 c5 d0 d1 d2 d3 d4 d5
    go_wp2_with fail
    refine (HC1.out _).mono ?_
    rintro e w2 ⟨rfl, hb⟩
    have E2 := Lib.hid (E1.out.go hb)
    clear hb c0 c1 c2 c3 c4 c5 d0 d1 d2 d3 d4 d5
    obtain ⟨c0, c1, c2, c3, c4, c5⟩ := sixC E2.out.one
    obtain ⟨d0, d1, d2, d3, d4, d5⟩ := sixC E2.out.two
    dsimp only at c0 c1 c2 c3 c4 c5 d0 d1 d2 d3 d4 d5
    go_wp2_with fail
    refine (HR1.out _).mono ?_
    rintro e w3 ⟨rfl, hb⟩
    have E3 := Lib.hid (E2.out.go hb)
    clear hb c0 c1 c2 c3 c4 c5 d0 d1 d2 d3 d4 d5
    obtain ⟨c0, c1, c2, c3, c4, c5⟩ := sixC E3.out.one
    obtain ⟨d0, d1, d2, d3, d4, d5⟩ := sixC E3.out.two
    dsimp only at c0 c1 c2 c3 c4 c5 d0 d1 d2 d3 d4 d5
    go_wp2_with fail
    refine (HC2.out _).mono ?_
    rintro e w4 ⟨rfl, hb⟩
    have E4 := Lib.hid (E3.out.go hb)
    clear hb c0 c1 c2 c3 c4 c5 d0 d1 d2 d3 d4 d5
    obtain ⟨c0, c1, c2, c3, c4, c5⟩ := sixC E4.out.one
    obtain ⟨d0, d1, d2, d3, d4, d5⟩ := sixC E4.out.two
    dsimp only at c0 c1 c2 c3 c4 c5 d0 d1 d2 d3 d4 d5
    go_wp2_with fail
    refine (HP1.out _ E4.out.tab).mono ?_
    rintro e w5 ⟨rfl, hb⟩
    have E5 := Lib.hid (E4.out.go hb)
    clear hb c0 c1 c2 c3 c4 c5 d0 d1 d2 d3 d4 d5
    obtain ⟨c0, c1, c2, c3, c4, c5⟩ := sixC E5.out.one
    obtain ⟨d0, d1, d2, d3, d4, d5⟩ := sixC E5.out.two
    dsimp only at c0 c1 c2 c3 c4 c5 d0 d1 d2 d3 d4 d5
    go_wp2_with fail
    refine (HP2.out _ E5.out.tab).mono ?_
    rintro e w6 ⟨rfl, hb⟩
    have E6 := Lib.hid (E5.out.go hb)
    clear hb c0 c1 c2 c3 c4 c5 d0 d1 d2 d3 d4 d5
    obtain ⟨c0, c1, c2, c3, c4, c5⟩ := sixC E6.out.one
    obtain ⟨d0, d1, d2, d3, d4, d5⟩ := sixC E6.out.two
    dsimp only at c0 c1 c2 c3 c4 c5 d0 d1 d2 d3 d4 d5
    go_wp2_with fail
    refine (HU1.out _ E6.out.tab).mono ?_
    rintro e w7 ⟨rfl, hb⟩
    have E7 := Lib.hid (E6.out.go hb)
    clear hb c0 c1 c2 c3 c4 c5 d0 d1 d2 d3 d4 d5
    obtain ⟨c0, c1, c2, c3, c4, c5⟩ := sixC E7.out.one
    obtain ⟨d0, d1, d2, d3, d4, d5⟩ := sixC E7.out.two
    dsimp only at c0 c1 c2 c3 c4 c5 d0 d1 d2 d3 d4 d5
    have E8 := Lib.hid (E7.out.alloc (.cells #[.int .i64 a1, .int .i64 a2, .int .i64 a3, .int .i64 a4, .int .i64 a5, .int .i64 a6] 23))
    have ke := sixS (Blk.new w7 23 #[.int .i64 a1, .int .i64 a2, .int .i64 a3, .int .i64 a4, .int .i64 a5, .int .i64 a6])
    obtain ⟨e0, e1, e2, e3, e4, e5⟩ := ke
    clear c0 c1 c2 c3 c4 c5 d0 d1 d2 d3 d4 d5
    obtain ⟨c0, c1, c2, c3, c4, c5⟩ := sixC E8.out.one
    obtain ⟨d0, d1, d2, d3, d4, d5⟩ := sixC E8.out.two
    dsimp only at c0 c1 c2 c3 c4 c5 d0 d1 d2 d3 d4 d5
    go_wp2_with fail
    generalize w7.alloc (.cells #[.int .i64 a1, .int .i64 a2, .int .i64 a3, .int .i64 a4, .int .i64 a5, .int .i64 a6] 23) = w8 at *
    refine (HU2.out w8 E8.out.tab).mono ?_
    rintro e w9 ⟨rfl, hb⟩
    have E9 := Lib.hid (E8.out.go hb)
    clear hb c0 c1 c2 c3 c4 c5 d0 d1 d2 d3 d4 d5 e0 e1 e2 e3 e4 e5
    obtain ⟨c0, c1, c2, c3, c4, c5⟩ := sixC E9.out.one
    obtain ⟨d0, d1, d2, d3, d4, d5⟩ := sixC E9.out.two
    dsimp only at c0 c1 c2 c3 c4 c5 d0 d1 d2 d3 d4 d5
    have E10 := Lib.hid (E9.out.alloc (.cells #[.int .i64 0, .int .i64 0, .int .i64 0, .int .i64 0, .int .i64 0, .int .i64 0] 23))
    go_wp2_with fail
    generalize w9.alloc (.cells #[.int .i64 0, .int .i64 0, .int .i64 0, .int .i64 0, .int .i64 0, .int .i64 0] 23) = w10 at *
    refine (HP3.out w10 E10.out.tab).mono ?_
    rintro e w11 ⟨rfl, hb⟩
    have E11 := Lib.hid (E10.out.go hb)
    clear hb c0 c1 c2 c3 c4 c5 d0 d1 d2 d3 d4 d5
    go_wp2
    go_ret
    exact ⟨rfl, E11.out.bel⟩
set_option maxHeartbeats 8000000 in
theorem ord_yny (a : St) (ha : StW a) (b : St) (hb : StW b) (d m : Nat) (hd : d < 65536) (hm : m < 65536) (oka : okP a) (okb : ¬ okP b) (okd : okP (unSt d m)) (w : World) (ht : TabM w) :
    Calls Tryd.prog 4 #[stV a, stV b, .int .u16 d, .int .u16 m] w fun e w' => e = .returned (.bool true) ∧ Below w.heap.size w w' := by
  have C1 := fun W => CompareS_c a b W
  have C2 := fun W => CompareS_c b a W
  rw [cmpS_neg] at C2
  have R1 := fun W => RefCompareS_c a b ha hb W
  have P1 := fun W hW => PackV_c a ha.y W hW
  have P2 := fun W hW => PackV_c b hb.y W hW
  have U2 := fun W hW => Unpack_c d m hd hm W hW
  unfold pkV at P1 P2
  rw [if_pos oka] at P1
  rw [if_neg okb] at P2
  unfold unV at U2
  rw [if_pos okd] at U2
  have U1 := fun W hW => Unpack_c (datN a) (timN a) (datN_lt oka.six) (timN_lt oka.six) W hW
  unfold unV at U1
  rw [un_pack oka.six, if_pos oka] at U1
  have bd := datN_lt oka.six
  have bm := timN_lt oka.six
  have P3 := fun W hW => PackV_c (unSt d m) (unSt_y d m hd) W hW
  unfold pkV at P3
  rw [if_pos okd, pack_un.1, pack_un.2] at P3
  have bc := cmpS_bd a b
  obtain ⟨bc1, bc2⟩ := bc
  have E0' := BEnv.new (w := w) a b ht
  generalize cmpS a b = c at *
  generalize datN a = D at *
  generalize timN a = M at *
  obtain ⟨a1, a2, a3, a4, a5, a6⟩ := a
  obtain ⟨b1, b2, b3, b4, b5, b6⟩ := b
  generalize unSt d m = u at *
  obtain ⟨u1, u2, u3, u4, u5, u6⟩ := u
  unfold stV at C1 C2 R1 P1 P2 U2 P3 U1 ⊢
  unfold stC at E0'
  dsimp only [st0] at C1 C2 R1 P1 P2 U2 P3 U1 E0' ⊢
  have HC1 := Lib.hid C1
  have HC2 := Lib.hid C2
  have HR1 := Lib.hid R1
  have HP1 := Lib.hid P1
  have HP2 := Lib.hid P2
  have HU2 := Lib.hid U2
  have HP3 := Lib.hid P3
  have HU1 := Lib.hid U1
  have E0 := Lib.hid E0'
  clear C1 C2 R1 P1 P2 U2 P3 U1 E0' oka okb okd ha hb ht
  have hcc : (c != c) = false := by simp
  have hcn : (-c != -c) = false := by simp
  go_enter Tryd.func4, Tryd.ntmps4
  go_wp2_with fail
  refine (alive17_c _ E0.out.tab).mono ?_
  rintro e w1 ⟨rfl, hb⟩
  have E1 := Lib.hid (E0.out.go hb)
  clear hb
  obtain ⟨c0, c1, c2, c3, c4, c5⟩ := sixC E1.out.one
  obtain ⟨d0, d1, d2, d3, d4, d5⟩ := sixC E1.out.two
  dsimp only at c0 c1 c2 c3 c4 c5 d0 d1 d2 d3 d4 d5
  go_wp2_with fail
  refine (HC1.out _).mono ?_
  rintro e w2 ⟨rfl, hb⟩
  have E2 := Lib.hid (E1.out.go hb)
  clear hb c0 c1 c2 c3 c4 c5 d0 d1 d2 d3 d4 d5
  obtain ⟨c0, c1, c2, c3, c4, c5⟩ := sixC E2.out.one
  obtain ⟨d0, d1, d2, d3, d4, d5⟩ := sixC E2.out.two
  dsimp only at c0 c1 c2 c3 c4 c5 d0 d1 d2 d3 d4 d5
  go_wp2_with fail
  refine (HR1.out _).mono ?_
  rintro e w3 ⟨rfl, hb⟩
  have E3 := Lib.hid (E2.out.go hb)
  clear hb c0 c1 c2 c3 c4 c5 d0 d1 d2 d3 d4 d5
  obtain ⟨c0, c1, c2, c3, c4, c5⟩ := sixC E3.out.one
  obtain ⟨d0, d1, d2, d3, d4, d5⟩ := sixC E3.out.two
  dsimp only at c0 c1 c2 c3 c4 c5 d0 d1 d2 d3 d4 d5
  go_wp2_with fail
  refine (HC2.out _).mono ?_
  rintro e w4 ⟨rfl, hb⟩
  have E4 := Lib.hid (E3.out.go hb)
  clear hb c0 c1 c2 c3 c4 c5 d0 d1 d2 d3 d4 d5
  obtain ⟨c0, c1, c2, c3, c4, c5⟩ := sixC E4.out.one
  obtain ⟨d0, d1, d2, d3, d4, d5⟩ := sixC E4.out.two
  dsimp only at c0 c1 c2 c3 c4 c5 d0 d1 d2 d3 d4 d5
  go_wp2_with fail
  refine (HP1.out _ E4.out.tab).mono ?_
  rintro e w5 ⟨rfl, hb⟩
  have E5 := Lib.hid (E4.out.go hb)
  clear hb c0 c1 c2 c3 c4 c5 d0 d1 d2 d3 d4 d5
  obtain ⟨c0, c1, c2, c3, c4, c5⟩ := sixC E5.out.one
  obtain ⟨d0, d1, d2, d3, d4, d5⟩ := sixC E5.out.two
  dsimp only at c0 c1 c2 c3 c4 c5 d0 d1 d2 d3 d4 d5
  go_wp2_with fail
  refine (HP2.out _ E5.out.tab).mono ?_
  rintro e w6 ⟨rfl, hb⟩
  have E6 := Lib.hid (E5.out.go hb)
  clear hb c0 c1 c2 c3 c4 c5 d0 d1 d2 d3 d4 d5
  obtain ⟨c0, c1, c2, c3, c4, c5⟩ := sixC E6.out.one
  obtain ⟨d0, d1, d2, d3, d4, d5⟩ := sixC E6.out.two
  dsimp only at c0 c1 c2 c3 c4 c5 d0 d1 d2 d3 d4 d5
  go_wp2_with fail
  refine (HU1.out _ E6.out.tab).mono ?_
  rintro e w7 ⟨rfl, hb⟩
  have E7 := Lib.hid (E6.out.go hb)
  clear hb c0 c1 c2 c3 c4 c5 d0 d1 d2 d3 d4 d5
  obtain ⟨c0, c1, c2, c3, c4, c5⟩ := sixC E7.out.one
  obtain ⟨d0, d1, d2, d3, d4, d5⟩ := sixC E7.out.two
  dsimp only at c0 c1 c2 c3 c4 c5 d0 d1 d2 d3 d4 d5
  have E8 := Lib.hid (E7.out.alloc (.cells #[.int .i64 a1, .int .i64 a2, .int .i64 a3, .int .i64 a4, .int .i64 a5, .int .i64 a6] 23))
  have ke := sixS (Blk.new w7 23 #[.int .i64 a1, .int .i64 a2, .int .i64 a3, .int .i64 a4, .int .i64 a5, .int .i64 a6])
  obtain ⟨e0, e1, e2, e3, e4, e5⟩ := ke
  clear c0 c1 c2 c3 c4 c5 d0 d1 d2 d3 d4 d5
  obtain ⟨c0, c1, c2, c3, c4, c5⟩ := sixC E8.out.one
  obtain ⟨d0, d1, d2, d3, d4, d5⟩ := sixC E8.out.two
  dsimp only at c0 c1 c2 c3 c4 c5 d0 d1 d2 d3 d4 d5
  go_wp2_with fail
  generalize w7.alloc (.cells #[.int .i64 a1, .int .i64 a2, .int .i64 a3, .int .i64 a4, .int .i64 a5, .int .i64 a6] 23) = w8 at *
  refine (HU2.out w8 E8.out.tab).mono ?_
  rintro e w9 ⟨rfl, hb⟩
  have E9 := Lib.hid (E8.out.go hb)
  clear hb c0 c1 c2 c3 c4 c5 d0 d1 d2 d3 d4 d5 e0 e1 e2 e3 e4 e5
  obtain ⟨c0, c1, c2, c3, c4, c5⟩ := sixC E9.out.one
  obtain ⟨d0, d1, d2, d3, d4, d5⟩ := sixC E9.out.two
  dsimp only at c0 c1 c2 c3 c4 c5 d0 d1 d2 d3 d4 d5
  have E10 := Lib.hid (E9.out.alloc (.cells #[.int .i64 u1, .int .i64 u2, .int .i64 u3, .int .i64 u4, .int .i64 u5, .int .i64 u6] 23))
  go_wp2_with fail
  generalize w9.alloc (.cells #[.int .i64 u1, .int .i64 u2, .int .i64 u3, .int .i64 u4, .int .i64 u5, .int .i64 u6] 23) = w10 at *
  refine (HP3.out w10 E10.out.tab).mono ?_
  rintro e w11 ⟨rfl, hb⟩
  have E11 := Lib.hid (E10.out.go hb)
  clear hb c0 c1 c2 c3 c4 c5 d0 d1 d2 d3 d4 d5
  go_wp2
  go_ret
  exact ⟨rfl, E11.out.bel⟩
set_option maxHeartbeats 8000000 in
theorem ord_ynn (a : St) (ha : StW a) (b : St) (hb : StW b) (d m : Nat) (hd : d < 65536) (hm : m < 65536) (oka : okP a) (okb : ¬ okP b) (okd : ¬ okP (unSt d m)) (w : World) (ht : TabM w) :
    Calls Tryd.prog 4 #[stV a, stV b, .int .u16 d, .int .u16 m] w fun e w' => e = .returned (.bool true) ∧ Below w.heap.size w w' := by
  have C1 := fun W => CompareS_c a b W
  have C2 := fun W => CompareS_c b a W
  rw [cmpS_neg] at C2
  have R1 := fun W => RefCompareS_c a b ha hb W
  have P1 := fun W hW => PackV_c a ha.y W hW
  have P2 := fun W hW => PackV_c b hb.y W hW
  have U2 := fun W hW => Unpack_c d m hd hm W hW
  unfold pkV at P1 P2
  rw [if_pos oka] at P1
  rw [if_neg okb] at P2
  unfold unV at U2
  rw [if_neg okd] at U2
  have U1 := fun W hW => Unpack_c (datN a) (timN a) (datN_lt oka.six) (timN_lt oka.six) W hW
  unfold unV at U1
  rw [un_pack oka.six, if_pos oka] at U1
  have bd := datN_lt oka.six
  have bm := timN_lt oka.six
  have P3 := fun W hW => PackV_c st0 (by rfl) W hW
  unfold pkV at P3
  rw [if_neg (by decide)] at P3
  have bc := cmpS_bd a b
  obtain ⟨bc1, bc2⟩ := bc
  have E0' := BEnv.new (w := w) a b ht
  generalize cmpS a b = c at *
  generalize datN a = D at *
  generalize timN a = M at *
  obtain ⟨a1, a2, a3, a4, a5, a6⟩ := a
  obtain ⟨b1, b2, b3, b4, b5, b6⟩ := b
  unfold stV at C1 C2 R1 P1 P2 U2 P3 U1 ⊢
  unfold stC at E0'
  dsimp only [st0] at C1 C2 R1 P1 P2 U2 P3 U1 E0' ⊢
  have HC1 := Lib.hid C1
  have HC2 := Lib.hid C2
  have HR1 := Lib.hid R1
  have HP1 := Lib.hid P1
  have HP2 := Lib.hid P2
  have HU2 := Lib.hid U2
  have HP3 := Lib.hid P3
  have HU1 := Lib.hid U1
  have E0 := Lib.hid E0'
  clear C1 C2 R1 P1 P2 U2 P3 U1 E0' oka okb okd ha hb ht
  have hcc : (c != c) = false := by simp
  have hcn : (-c != -c) = false := by simp
  go_enter Tryd.func4, Tryd.ntmps4
  go_wp2_with fail
  refine (alive17_c _ E0.out.tab).mono ?_
  rintro e w1 ⟨rfl, hb⟩
  have E1 := Lib.hid (E0.out.go hb)
  clear hb
  obtain ⟨c0, c1, c2, c3, c4, c5⟩ := sixC E1.out.one
  obtain ⟨d0, d1, d2, d3, d4, d5⟩ := sixC E1.out.two
  dsimp only at c0 c1 c2 c3 c4 c5 d0 d1 d2 d3 d4 d5
  go_wp2_with fail
  refine (HC1.out _).mono ?_
  rintro e w2 ⟨rfl, hb⟩
  have E2 := Lib.hid (E1.out.go hb)
  clear hb c0 c1 c2 c3 c4 c5 d0 d1 d2 d3 d4 d5
  obtain ⟨c0, c1, c2, c3, c4, c5⟩ := sixC E2.out.one
  obtain ⟨d0, d1, d2, d3, d4, d5⟩ := sixC E2.out.two
  dsimp only at c0 c1 c2 c3 c4 c5 d0 d1 d2 d3 d4 d5
  go_wp2_with fail
  refine (HR1.out _).mono ?_
  rintro e w3 ⟨rfl, hb⟩
  have E3 := Lib.hid (E2.out.go hb)
  clear hb c0 c1 c2 c3 c4 c5 d0 d1 d2 d3 d4 d5
  obtain ⟨c0, c1, c2, c3, c4, c5⟩ := sixC E3.out.one
  obtain ⟨d0, d1, d2, d3, d4, d5⟩ := sixC E3.out.two
  dsimp only at c0 c1 c2 c3 c4 c5 d0 d1 d2 d3 d4 d5
  go_wp2_with fail
  refine (HC2.out _).mono ?_
  rintro e w4 ⟨rfl, hb⟩
  have E4 := Lib.hid (E3.out.go hb)
  clear hb c0 c1 c2 c3 c4 c5 d0 d1 d2 d3 d4 d5
  obtain ⟨c0, c1, c2, c3, c4, c5⟩ := sixC E4.out.one
  obtain ⟨d0, d1, d2, d3, d4, d5⟩ := sixC E4.out.two
  dsimp only at c0 c1 c2 c3 c4 c5 d0 d1 d2 d3 d4 d5
  go_wp2_with fail
  refine (HP1.out _ E4.out.tab).mono ?_
  rintro e w5 ⟨rfl, hb⟩
  have E5 := Lib.hid (E4.out.go hb)
  clear hb c0 c1 c2 c3 c4 c5 d0 d1 d2 d3 d4 d5
  obtain ⟨c0, c1, c2, c3, c4, c5⟩ := sixC E5.out.one
  obtain ⟨d0, d1, d2, d3, d4, d5⟩ := sixC E5.out.two
  dsimp only at c0 c1 c2 c3 c4 c5 d0 d1 d2 d3 d4 d5
  go_wp2_with fail
  refine (HP2.out _ E5.out.tab).mono ?_
  rintro e w6 ⟨rfl, hb⟩
  have E6 := Lib.hid (E5.out.go hb)
  clear hb c0 c1 c2 c3 c4 c5 d0 d1 d2 d3 d4 d5
  obtain ⟨c0, c1, c2, c3, c4, c5⟩ := sixC E6.out.one
  obtain ⟨d0, d1, d2, d3, d4, d5⟩ := sixC E6.out.two
  dsimp only at c0 c1 c2 c3 c4 c5 d0 d1 d2 d3 d4 d5
  go_wp2_with fail
  refine (HU1.out _ E6.out.tab).mono ?_
  rintro e w7 ⟨rfl, hb⟩
  have E7 := Lib.hid (E6.out.go hb)
  clear hb c0 c1 c2 c3 c4 c5 d0 d1 d2 d3 d4 d5
  obtain ⟨c0, c1, c2, c3, c4, c5⟩ := sixC E7.out.one
  obtain ⟨d0, d1, d2, d3, d4, d5⟩ := sixC E7.out.two
  dsimp only at c0 c1 c2 c3 c4 c5 d0 d1 d2 d3 d4 d5
  have E8 := Lib.hid (E7.out.alloc (.cells #[.int .i64 a1, .int .i64 a2, .int .i64 a3, .int .i64 a4, .int .i64 a5, .int .i64 a6] 23))
  have ke := sixS (Blk.new w7 23 #[.int .i64 a1, .int .i64 a2, .int .i64 a3, .int .i64 a4, .int .i64 a5, .int .i64 a6])
  obtain ⟨e0, e1, e2, e3, e4, e5⟩ := ke
  clear c0 c1 c2 c3 c4 c5 d0 d1 d2 d3 d4 d5
  obtain ⟨c0, c1, c2, c3, c4, c5⟩ := sixC E8.out.one
  obtain ⟨d0, d1, d2, d3, d4, d5⟩ := sixC E8.out.two
  dsimp only at c0 c1 c2 c3 c4 c5 d0 d1 d2 d3 d4 d5
  go_wp2_with fail
  generalize w7.alloc (.cells #[.int .i64 a1, .int .i64 a2, .int .i64 a3, .int .i64 a4, .int .i64 a5, .int .i64 a6] 23) = w8 at *
  refine (HU2.out w8 E8.out.tab).mono ?_
  rintro e w9 ⟨rfl, hb⟩
  have E9 := Lib.hid (E8.out.go hb)
  clear hb c0 c1 c2 c3 c4 c5 d0 d1 d2 d3 d4 d5 e0 e1 e2 e3 e4 e5
  obtain ⟨c0, c1, c2, c3, c4, c5⟩ := sixC E9.out.one
  obtain ⟨d0, d1, d2, d3, d4, d5⟩ := sixC E9.out.two
  dsimp only at c0 c1 c2 c3 c4 c5 d0 d1 d2 d3 d4 d5
  have E10 := Lib.hid (E9.out.alloc (.cells #[.int .i64 0, .int .i64 0, .int .i64 0, .int .i64 0, .int .i64 0, .int .i64 0] 23))
  go_wp2_with fail
  generalize w9.alloc (.cells #[.int .i64 0, .int .i64 0, .int .i64 0, .int .i64 0, .int .i64 0, .int .i64 0] 23) = w10 at *
  refine (HP3.out w10 E10.out.tab).mono ?_
  rintro e w11 ⟨rfl, hb⟩
  have E11 := Lib.hid (E10.out.go hb)
  clear hb c0 c1 c2 c3 c4 c5 d0 d1 d2 d3 d4 d5
  go_wp2
  go_ret
  exact ⟨rfl, E11.out.bel⟩
set_option maxHeartbeats 8000000 in
theorem ord_nyy (a : St) (ha : StW a) (b : St) (hb : StW b) (d m : Nat) (hd : d < 65536) (hm : m < 65536) (oka : ¬ okP a) (okb : okP b) (okd : okP (unSt d m)) (w : World) (ht : TabM w) :
    Calls Tryd.prog 4 #[stV a, stV b, .int .u16 d, .int .u16 m] w fun e w' => e = .returned (.bool true) ∧ Below w.heap.size w w' := by
  have C1 := fun W => CompareS_c a b W
  have C2 := fun W => CompareS_c b a W
  rw [cmpS_neg] at C2
  have R1 := fun W => RefCompareS_c a b ha hb W
  have P1 := fun W hW => PackV_c a ha.y W hW
  have P2 := fun W hW => PackV_c b hb.y W hW
  have U2 := fun W hW => Unpack_c d m hd hm W hW
  unfold pkV at P1 P2
  rw [if_neg oka] at P1
  rw [if_pos okb] at P2
  unfold unV at U2
  rw [if_pos okd] at U2
  have bx := datN_lt okb.six
  have by_ := timN_lt okb.six
  have P3 := fun W hW => PackV_c (unSt d m) (unSt_y d m hd) W hW
  unfold pkV at P3
  rw [if_pos okd, pack_un.1, pack_un.2] at P3
  have bc := cmpS_bd a b
  obtain ⟨bc1, bc2⟩ := bc
  have E0' := BEnv.new (w := w) a b ht
  generalize cmpS a b = c at *
  generalize datN b = X at *
  generalize timN b = Y at *
  obtain ⟨a1, a2, a3, a4, a5, a6⟩ := a
  obtain ⟨b1, b2, b3, b4, b5, b6⟩ := b
  generalize unSt d m = u at *
  obtain ⟨u1, u2, u3, u4, u5, u6⟩ := u
  unfold stV at C1 C2 R1 P1 P2 U2 P3 ⊢
  unfold stC at E0'
  dsimp only [st0] at C1 C2 R1 P1 P2 U2 P3 E0' ⊢
  have HC1 := Lib.hid C1
  have HC2 := Lib.hid C2
  have HR1 := Lib.hid R1
  have HP1 := Lib.hid P1
  have HP2 := Lib.hid P2
  have HU2 := Lib.hid U2
  have HP3 := Lib.hid P3
  have E0 := Lib.hid E0'
  clear C1 C2 R1 P1 P2 U2 P3 E0' oka okb okd ha hb ht
  have hcc : (c != c) = false := by simp
  have hcn : (-c != -c) = false := by simp
  go_enter Tryd.func4, Tryd.ntmps4
  go_wp2_with fail
  refine (alive17_c _ E0.out.tab).mono ?_
  rintro e w1 ⟨rfl, hb⟩
  have E1 := Lib.hid (E0.out.go hb)
  clear hb
  obtain ⟨c0, c1, c2, c3, c4, c5⟩ := sixC E1.out.one
  obtain ⟨d0, d1, d2, d3, d4, d5⟩ := sixC E1.out.two
  dsimp only at c0 c1 c2 c3 c4 c5 d0 d1 d2 d3 d4 d5
  go_wp2_with fail
  refine (HC1.out _).mono ?_
  rintro e w2 ⟨rfl, hb⟩
  have E2 := Lib.hid (E1.out.go hb)
  clear hb c0 c1 c2 c3 c4 c5 d0 d1 d2 d3 d4 d5
  obtain ⟨c0, c1, c2, c3, c4, c5⟩ := sixC E2.out.one
  obtain ⟨d0, d1, d2, d3, d4, d5⟩ := sixC E2.out.two
  dsimp only at c0 c1 c2 c3 c4 c5 d0 d1 d2 d3 d4 d5
  go_wp2_with fail
  refine (HR1.out _).mono ?_
  rintro e w3 ⟨rfl, hb⟩
  have E3 := Lib.hid (E2.out.go hb)
  clear hb c0 c1 c2 c3 c4 c5 d0 d1 d2 d3 d4 d5
  obtain ⟨c0, c1, c2, c3, c4, c5⟩ := sixC E3.out.one
  obtain ⟨d0, d1, d2, d3, d4, d5⟩ := sixC E3.out.two
  dsimp only at c0 c1 c2 c3 c4 c5 d0 d1 d2 d3 d4 d5
  go_wp2_with fail
  refine (HC2.out _).mono ?_
  rintro e w4 ⟨rfl, hb⟩
  have E4 := Lib.hid (E3.out.go hb)
  clear hb c0 c1 c2 c3 c4 c5 d0 d1 d2 d3 d4 d5
  obtain ⟨c0, c1, c2, c3, c4, c5⟩ := sixC E4.out.one
  obtain ⟨d0, d1, d2, d3, d4, d5⟩ := sixC E4.out.two
  dsimp only at c0 c1 c2 c3 c4 c5 d0 d1 d2 d3 d4 d5
  go_wp2_with fail
  refine (HP1.out _ E4.out.tab).mono ?_
  rintro e w5 ⟨rfl, hb⟩
  have E5 := Lib.hid (E4.out.go hb)
  clear hb c0 c1 c2 c3 c4 c5 d0 d1 d2 d3 d4 d5
  obtain ⟨c0, c1, c2, c3, c4, c5⟩ := sixC E5.out.one
  obtain ⟨d0, d1, d2, d3, d4, d5⟩ := sixC E5.out.two
  dsimp only at c0 c1 c2 c3 c4 c5 d0 d1 d2 d3 d4 d5
  go_wp2_with fail
  refine (HP2.out _ E5.out.tab).mono ?_
  rintro e w6 ⟨rfl, hb⟩
  have E6 := Lib.hid (E5.out.go hb)
  clear hb c0 c1 c2 c3 c4 c5 d0 d1 d2 d3 d4 d5
  obtain ⟨c0, c1, c2, c3, c4, c5⟩ := sixC E6.out.one
  obtain ⟨d0, d1, d2, d3, d4, d5⟩ := sixC E6.out.two
  dsimp only at c0 c1 c2 c3 c4 c5 d0 d1 d2 d3 d4 d5
  go_wp2_with fail
  refine (HU2.out _ E6.out.tab).mono ?_
  rintro e w7 ⟨rfl, hb⟩
  have E7 := Lib.hid (E6.out.go hb)
  clear hb c0 c1 c2 c3 c4 c5 d0 d1 d2 d3 d4 d5
  obtain ⟨c0, c1, c2, c3, c4, c5⟩ := sixC E7.out.one
  obtain ⟨d0, d1, d2, d3, d4, d5⟩ := sixC E7.out.two
  dsimp only at c0 c1 c2 c3 c4 c5 d0 d1 d2 d3 d4 d5
  have E8 := Lib.hid (E7.out.alloc (.cells #[.int .i64 u1, .int .i64 u2, .int .i64 u3, .int .i64 u4, .int .i64 u5, .int .i64 u6] 23))
  go_wp2_with fail
  generalize w7.alloc (.cells #[.int .i64 u1, .int .i64 u2, .int .i64 u3, .int .i64 u4, .int .i64 u5, .int .i64 u6] 23) = w8 at *
  refine (HP3.out w8 E8.out.tab).mono ?_
  rintro e w9 ⟨rfl, hb⟩
  have E9 := Lib.hid (E8.out.go hb)
  clear hb c0 c1 c2 c3 c4 c5 d0 d1 d2 d3 d4 d5
  go_wp2
  go_ret
  exact ⟨rfl, E9.out.bel⟩
set_option maxHeartbeats 8000000 in
theorem ord_nyn (a : St) (ha : StW a) (b : St) (hb : StW b) (d m : Nat) (hd : d < 65536) (hm : m < 65536) (oka : ¬ okP a) (okb : okP b) (okd : ¬ okP (unSt d m)) (w : World) (ht : TabM w) :
    Calls Tryd.prog 4 #[stV a, stV b, .int .u16 d, .int .u16 m] w fun e w' => e = .returned (.bool true) ∧ Below w.heap.size w w' := by
  have C1 := fun W => CompareS_c a b W
  have C2 := fun W => CompareS_c b a W
  rw [cmpS_neg] at C2
  have R1 := fun W => RefCompareS_c a b ha hb W
  have P1 := fun W hW => PackV_c a ha.y W hW
  have P2 := fun W hW => PackV_c b hb.y W hW
  have U2 := fun W hW => Unpack_c d m hd hm W hW
  unfold pkV at P1 P2
  rw [if_neg oka] at P1
  rw [if_pos okb] at P2
  unfold unV at U2
  rw [if_neg okd] at U2
  have bx := datN_lt okb.six
  have by_ := timN_lt okb.six
  have P3 := fun W hW => PackV_c st0 (by rfl) W hW
  unfold pkV at P3
  rw [if_neg (by decide)] at P3
  have bc := cmpS_bd a b
  obtain ⟨bc1, bc2⟩ := bc
  have E0' := BEnv.new (w := w) a b ht
  generalize cmpS a b = c at *
  generalize datN b = X at *
  generalize timN b = Y at *
  obtain ⟨a1, a2, a3, a4, a5, a6⟩ := a
  obtain ⟨b1, b2, b3, b4, b5, b6⟩ := b
  unfold stV at C1 C2 R1 P1 P2 U2 P3 ⊢
  unfold stC at E0'
  dsimp only [st0] at C1 C2 R1 P1 P2 U2 P3 E0' ⊢
  have HC1 := Lib.hid C1
  have HC2 := Lib.hid C2
  have HR1 := Lib.hid R1
  have HP1 := Lib.hid P1
  have HP2 := Lib.hid P2
  have HU2 := Lib.hid U2
  have HP3 := Lib.hid P3
  have E0 := Lib.hid E0'
  clear C1 C2 R1 P1 P2 U2 P3 E0' oka okb okd ha hb ht
  have hcc : (c != c) = false := by simp
  have hcn : (-c != -c) = false := by simp
  go_enter Tryd.func4, Tryd.ntmps4
  go_wp2_with fail
  refine (alive17_c _ E0.out.tab).mono ?_
  rintro e w1 ⟨rfl, hb⟩
  have E1 := Lib.hid (E0.out.go hb)
  clear hb
  obtain ⟨c0, c1, c2, c3, c4, c5⟩ := sixC E1.out.one
  obtain ⟨d0, d1, d2, d3, d4, d5⟩ := sixC E1.out.two
  dsimp only at c0 c1 c2 c3 c4 c5 d0 d1 d2 d3 d4 d5
  go_wp2_with fail
  refine (HC1.out _).mono ?_
  rintro e w2 ⟨rfl, hb⟩
  have E2 := Lib.hid (E1.out.go hb)
  clear hb c0 c1 c2 c3 c4 c5 d0 d1 d2 d3 d4 d5
  obtain ⟨c0, c1, c2, c3, c4, c5⟩ := sixC E2.out.one
  obtain ⟨d0, d1, d2, d3, d4, d5⟩ := sixC E2.out.two
  dsimp only at c0 c1 c2 c3 c4 c5 d0 d1 d2 d3 d4 d5
  go_wp2_with fail
  refine (HR1.out _).mono ?_
  rintro e w3 ⟨rfl, hb⟩
  have E3 := Lib.hid (E2.out.go hb)
  clear hb c0 c1 c2 c3 c4 c5 d0 d1 d2 d3 d4 d5
  obtain ⟨c0, c1, c2, c3, c4, c5⟩ := sixC E3.out.one
  obtain ⟨d0, d1, d2, d3, d4, d5⟩ := sixC E3.out.two
  dsimp only at c0 c1 c2 c3 c4 c5 d0 d1 d2 d3 d4 d5
  go_wp2_with fail
  refine (HC2.out _).mono ?_
  rintro e w4 ⟨rfl, hb⟩
  have E4 := Lib.hid (E3.out.go hb)
  clear hb c0 c1 c2 c3 c4 c5 d0 d1 d2 d3 d4 d5
  obtain ⟨c0, c1, c2, c3, c4, c5⟩ := sixC E4.out.one
  obtain ⟨d0, d1, d2, d3, d4, d5⟩ := sixC E4.out.two
  dsimp only at c0 c1 c2 c3 c4 c5 d0 d1 d2 d3 d4 d5
  go_wp2_with fail
  refine (HP1.out _ E4.out.tab).mono ?_
  rintro e w5 ⟨rfl, hb⟩
  have E5 := Lib.hid (E4.out.go hb)
  clear hb c0 c1 c2 c3 c4 c5 d0 d1 d2 d3 d4 d5
  obtain ⟨c0, c1, c2, c3, c4, c5⟩ := sixC E5.out.one
  obtain ⟨d0, d1, d2, d3, d4, d5⟩ := sixC E5.out.two
  dsimp only at c0 c1 c2 c3 c4 c5 d0 d1 d2 d3 d4 d5
  go_wp2_with fail
  refine (HP2.out _ E5.out.tab).mono ?_
  rintro e w6 ⟨rfl, hb⟩
  have E6 := Lib.hid (E5.out.go hb)
  clear hb c0 c1 c2 c3 c4 c5 d0 d1 d2 d3 d4 d5
  obtain ⟨c0, c1, c2, c3, c4, c5⟩ := sixC E6.out.one
  obtain ⟨d0, d1, d2, d3, d4, d5⟩ := sixC E6.out.two
  dsimp only at c0 c1 c2 c3 c4 c5 d0 d1 d2 d3 d4 d5
  go_wp2_with fail
  refine (HU2.out _ E6.out.tab).mono ?_
  rintro e w7 ⟨rfl, hb⟩
  have E7 := Lib.hid (E6.out.go hb)
  clear hb c0 c1 c2 c3 c4 c5 d0 d1 d2 d3 d4 d5
  obtain ⟨c0, c1, c2, c3, c4, c5⟩ := sixC E7.out.one
  obtain ⟨d0, d1, d2, d3, d4, d5⟩ := sixC E7.out.two
  dsimp only at c0 c1 c2 c3 c4 c5 d0 d1 d2 d3 d4 d5
  have E8 := Lib.hid (E7.out.alloc (.cells #[.int .i64 0, .int .i64 0, .int .i64 0, .int .i64 0, .int .i64 0, .int .i64 0] 23))
  go_wp2_with fail
  generalize w7.alloc (.cells #[.int .i64 0, .int .i64 0, .int .i64 0, .int .i64 0, .int .i64 0, .int .i64 0] 23) = w8 at *
  refine (HP3.out w8 E8.out.tab).mono ?_
  rintro e w9 ⟨rfl, hb⟩
  have E9 := Lib.hid (E8.out.go hb)
  clear hb c0 c1 c2 c3 c4 c5 d0 d1 d2 d3 d4 d5
  go_wp2
  go_ret
  exact ⟨rfl, E9.out.bel⟩
set_option maxHeartbeats 8000000 in
theorem ord_nny (a : St) (ha : StW a) (b : St) (hb : StW b) (d m : Nat) (hd : d < 65536) (hm : m < 65536) (oka : ¬ okP a) (okb : ¬ okP b) (okd : okP (unSt d m)) (w : World) (ht : TabM w) :
    Calls Tryd.prog 4 #[stV a, stV b, .int .u16 d, .int .u16 m] w fun e w' => e = .returned (.bool true) ∧ Below w.heap.size w w' := by
  have C1 := fun W => CompareS_c a b W
  have C2 := fun W => CompareS_c b a W
  rw [cmpS_neg] at C2
  have R1 := fun W => RefCompareS_c a b ha hb W
  have P1 := fun W hW => PackV_c a ha.y W hW
  have P2 := fun W hW => PackV_c b hb.y W hW
  have U2 := fun W hW => Unpack_c d m hd hm W hW
  unfold pkV at P1 P2
  rw [if_neg oka] at P1
  rw [if_neg okb] at P2
  unfold unV at U2
  rw [if_pos okd] at U2
  have P3 := fun W hW => PackV_c (unSt d m) (unSt_y d m hd) W hW
  unfold pkV at P3
  rw [if_pos okd, pack_un.1, pack_un.2] at P3
  have bc := cmpS_bd a b
  obtain ⟨bc1, bc2⟩ := bc
  have E0' := BEnv.new (w := w) a b ht
  generalize cmpS a b = c at *
  obtain ⟨a1, a2, a3, a4, a5, a6⟩ := a
  obtain ⟨b1, b2, b3, b4, b5, b6⟩ := b
  generalize unSt d m = u at *
  obtain ⟨u1, u2, u3, u4, u5, u6⟩ := u
  unfold stV at C1 C2 R1 P1 P2 U2 P3 ⊢
  unfold stC at E0'
  dsimp only [st0] at C1 C2 R1 P1 P2 U2 P3 E0' ⊢
  have HC1 := Lib.hid C1
  have HC2 := Lib.hid C2
  have HR1 := Lib.hid R1
  have HP1 := Lib.hid P1
  have HP2 := Lib.hid P2
  have HU2 := Lib.hid U2
  have HP3 := Lib.hid P3
  have E0 := Lib.hid E0'
  clear C1 C2 R1 P1 P2 U2 P3 E0' oka okb okd ha hb ht
  have hcc : (c != c) = false := by simp
  have hcn : (-c != -c) = false := by simp
  go_enter Tryd.func4, Tryd.ntmps4
  go_wp2_with fail
  refine (alive17_c _ E0.out.tab).mono ?_
  rintro e w1 ⟨rfl, hb⟩
  have E1 := Lib.hid (E0.out.go hb)
  clear hb
  obtain ⟨c0, c1, c2, c3, c4, c5⟩ := sixC E1.out.one
  obtain ⟨d0, d1, d2, d3, d4, d5⟩ := sixC E1.out.two
  dsimp only at c0 c1 c2 c3 c4 c5 d0 d1 d2 d3 d4 d5
  go_wp2_with fail
  refine (HC1.out _).mono ?_
  rintro e w2 ⟨rfl, hb⟩
  have E2 := Lib.hid (E1.out.go hb)
  clear hb c0 c1 c2 c3 c4 c5 d0 d1 d2 d3 d4 d5
  obtain ⟨c0, c1, c2, c3, c4, c5⟩ := sixC E2.out.one
  obtain ⟨d0, d1, d2, d3, d4, d5⟩ := sixC E2.out.two
  dsimp only at c0 c1 c2 c3 c4 c5 d0 d1 d2 d3 d4 d5
  go_wp2_with fail
  refine (HR1.out _).mono ?_
  rintro e w3 ⟨rfl, hb⟩
  have E3 := Lib.hid (E2.out.go hb)
  clear hb c0 c1 c2 c3 c4 c5 d0 d1 d2 d3 d4 d5
  obtain ⟨c0, c1, c2, c3, c4, c5⟩ := sixC E3.out.one
  obtain ⟨d0, d1, d2, d3, d4, d5⟩ := sixC E3.out.two
  dsimp only at c0 c1 c2 c3 c4 c5 d0 d1 d2 d3 d4 d5
  go_wp2_with fail
  refine (HC2.out _).mono ?_
  rintro e w4 ⟨rfl, hb⟩
  have E4 := Lib.hid (E3.out.go hb)
  clear hb c0 c1 c2 c3 c4 c5 d0 d1 d2 d3 d4 d5
  obtain ⟨c0, c1, c2, c3, c4, c5⟩ := sixC E4.out.one
  obtain ⟨d0, d1, d2, d3, d4, d5⟩ := sixC E4.out.two
  dsimp only at c0 c1 c2 c3 c4 c5 d0 d1 d2 d3 d4 d5
  go_wp2_with fail
  refine (HP1.out _ E4.out.tab).mono ?_
  rintro e w5 ⟨rfl, hb⟩
  have E5 := Lib.hid (E4.out.go hb)
  clear hb c0 c1 c2 c3 c4 c5 d0 d1 d2 d3 d4 d5
  obtain ⟨c0, c1, c2, c3, c4, c5⟩ := sixC E5.out.one
  obtain ⟨d0, d1, d2, d3, d4, d5⟩ := sixC E5.out.two
  dsimp only at c0 c1 c2 c3 c4 c5 d0 d1 d2 d3 d4 d5
  go_wp2_with fail
  refine (HP2.out _ E5.out.tab).mono ?_
  rintro e w6 ⟨rfl, hb⟩
  have E6 := Lib.hid (E5.out.go hb)
  clear hb c0 c1 c2 c3 c4 c5 d0 d1 d2 d3 d4 d5
  obtain ⟨c0, c1, c2, c3, c4, c5⟩ := sixC E6.out.one
  obtain ⟨d0, d1, d2, d3, d4, d5⟩ := sixC E6.out.two
  dsimp only at c0 c1 c2 c3 c4 c5 d0 d1 d2 d3 d4 d5
  go_wp2_with fail
  refine (HU2.out _ E6.out.tab).mono ?_
  rintro e w7 ⟨rfl, hb⟩
  have E7 := Lib.hid (E6.out.go hb)
  clear hb c0 c1 c2 c3 c4 c5 d0 d1 d2 d3 d4 d5
  obtain ⟨c0, c1, c2, c3, c4, c5⟩ := sixC E7.out.one
  obtain ⟨d0, d1, d2, d3, d4, d5⟩ := sixC E7.out.two
  dsimp only at c0 c1 c2 c3 c4 c5 d0 d1 d2 d3 d4 d5
  have E8 := Lib.hid (E7.out.alloc (.cells #[.int .i64 u1, .int .i64 u2, .int .i64 u3, .int .i64 u4, .int .i64 u5, .int .i64 u6] 23))
  go_wp2_with fail
  generalize w7.alloc (.cells #[.int .i64 u1, .int .i64 u2, .int .i64 u3, .int .i64 u4, .int .i64 u5, .int .i64 u6] 23) = w8 at *
  refine (HP3.out w8 E8.out.tab).mono ?_
  rintro e w9 ⟨rfl, hb⟩
  have E9 := Lib.hid (E8.out.go hb)
  clear hb c0 c1 c2 c3 c4 c5 d0 d1 d2 d3 d4 d5
  go_wp2
  go_ret
  exact ⟨rfl, E9.out.bel⟩
set_option maxHeartbeats 8000000 in
theorem ord_nnn (a : St) (ha : StW a) (b : St) (hb : StW b) (d m : Nat) (hd : d < 65536) (hm : m < 65536) (oka : ¬ okP a) (okb : ¬ okP b) (okd : ¬ okP (unSt d m)) (w : World) (ht : TabM w) :
    Calls Tryd.prog 4 #[stV a, stV b, .int .u16 d, .int .u16 m] w fun e w' => e = .returned (.bool true) ∧ Below w.heap.size w w' := by
  have C1 := fun W => CompareS_c a b W
  have C2 := fun W => CompareS_c b a W
  rw [cmpS_neg] at C2
  have R1 := fun W => RefCompareS_c a b ha hb W
  have P1 := fun W hW => PackV_c a ha.y W hW
  have P2 := fun W hW => PackV_c b hb.y W hW
  have U2 := fun W hW => Unpack_c d m hd hm W hW
  unfold pkV at P1 P2
  rw [if_neg oka] at P1
  rw [if_neg okb] at P2
  unfold unV at U2
  rw [if_neg okd] at U2
  have P3 := fun W hW => PackV_c st0 (by rfl) W hW
  unfold pkV at P3
  rw [if_neg (by decide)] at P3
  have bc := cmpS_bd a b
  obtain ⟨bc1, bc2⟩ := bc
  have E0' := BEnv.new (w := w) a b ht
  generalize cmpS a b = c at *
  obtain ⟨a1, a2, a3, a4, a5, a6⟩ := a
  obtain ⟨b1, b2, b3, b4, b5, b6⟩ := b
  unfold stV at C1 C2 R1 P1 P2 U2 P3 ⊢
  unfold stC at E0'
  dsimp only [st0] at C1 C2 R1 P1 P2 U2 P3 E0' ⊢
  have HC1 := Lib.hid C1
  have HC2 := Lib.hid C2
  have HR1 := Lib.hid R1
  have HP1 := Lib.hid P1
  have HP2 := Lib.hid P2
  have HU2 := Lib.hid U2
  have HP3 := Lib.hid P3
  have E0 := Lib.hid E0'
  clear C1 C2 R1 P1 P2 U2 P3 E0' oka okb okd ha hb ht
  have hcc : (c != c) = false := by simp
  have hcn : (-c != -c) = false := by simp
  go_enter Tryd.func4, Tryd.ntmps4
  go_wp2_with fail
  refine (alive17_c _ E0.out.tab).mono ?_
  rintro e w1 ⟨rfl, hb⟩
  have E1 := Lib.hid (E0.out.go hb)
  clear hb
  obtain ⟨c0, c1, c2, c3, c4, c5⟩ := sixC E1.out.one
  obtain ⟨d0, d1, d2, d3, d4, d5⟩ := sixC E1.out.two
  dsimp only at c0 c1 c2 c3 c4 c5 d0 d1 d2 d3 d4 d5
  go_wp2_with fail
  refine (HC1.out _).mono ?_
  rintro e w2 ⟨rfl, hb⟩
  have E2 := Lib.hid (E1.out.go hb)
  clear hb c0 c1 c2 c3 c4 c5 d0 d1 d2 d3 d4 d5
  obtain ⟨c0, c1, c2, c3, c4, c5⟩ := sixC E2.out.one
  obtain ⟨d0, d1, d2, d3, d4, d5⟩ := sixC E2.out.two
  dsimp only at c0 c1 c2 c3 c4 c5 d0 d1 d2 d3 d4 d5
  go_wp2_with fail
  refine (HR1.out _).mono ?_
  rintro e w3 ⟨rfl, hb⟩
  have E3 := Lib.hid (E2.out.go hb)
  clear hb c0 c1 c2 c3 c4 c5 d0 d1 d2 d3 d4 d5
  obtain ⟨c0, c1, c2, c3, c4, c5⟩ := sixC E3.out.one
  obtain ⟨d0, d1, d2, d3, d4, d5⟩ := sixC E3.out.two
  dsimp only at c0 c1 c2 c3 c4 c5 d0 d1 d2 d3 d4 d5
  go_wp2_with fail
  refine (HC2.out _).mono ?_
  rintro e w4 ⟨rfl, hb⟩
  have E4 := Lib.hid (E3.out.go hb)
  clear hb c0 c1 c2 c3 c4 c5 d0 d1 d2 d3 d4 d5
  obtain ⟨c0, c1, c2, c3, c4, c5⟩ := sixC E4.out.one
  obtain ⟨d0, d1, d2, d3, d4, d5⟩ := sixC E4.out.two
  dsimp only at c0 c1 c2 c3 c4 c5 d0 d1 d2 d3 d4 d5
  go_wp2_with fail
  refine (HP1.out _ E4.out.tab).mono ?_
  rintro e w5 ⟨rfl, hb⟩
  have E5 := Lib.hid (E4.out.go hb)
  clear hb c0 c1 c2 c3 c4 c5 d0 d1 d2 d3 d4 d5
  obtain ⟨c0, c1, c2, c3, c4, c5⟩ := sixC E5.out.one
  obtain ⟨d0, d1, d2, d3, d4, d5⟩ := sixC E5.out.two
  dsimp only at c0 c1 c2 c3 c4 c5 d0 d1 d2 d3 d4 d5
  go_wp2_with fail
  refine (HP2.out _ E5.out.tab).mono ?_
  rintro e w6 ⟨rfl, hb⟩
  have E6 := Lib.hid (E5.out.go hb)
  clear hb c0 c1 c2 c3 c4 c5 d0 d1 d2 d3 d4 d5
  obtain ⟨c0, c1, c2, c3, c4, c5⟩ := sixC E6.out.one
  obtain ⟨d0, d1, d2, d3, d4, d5⟩ := sixC E6.out.two
  dsimp only at c0 c1 c2 c3 c4 c5 d0 d1 d2 d3 d4 d5
  go_wp2_with fail
  refine (HU2.out _ E6.out.tab).mono ?_
  rintro e w7 ⟨rfl, hb⟩
  have E7 := Lib.hid (E6.out.go hb)
  clear hb c0 c1 c2 c3 c4 c5 d0 d1 d2 d3 d4 d5
  obtain ⟨c0, c1, c2, c3, c4, c5⟩ := sixC E7.out.one
  obtain ⟨d0, d1, d2, d3, d4, d5⟩ := sixC E7.out.two
  dsimp only at c0 c1 c2 c3 c4 c5 d0 d1 d2 d3 d4 d5
  have E8 := Lib.hid (E7.out.alloc (.cells #[.int .i64 0, .int .i64 0, .int .i64 0, .int .i64 0, .int .i64 0, .int .i64 0] 23))
  go_wp2_with fail
  generalize w7.alloc (.cells #[.int .i64 0, .int .i64 0, .int .i64 0, .int .i64 0, .int .i64 0, .int .i64 0] 23) = w8 at *
  refine (HP3.out w8 E8.out.tab).mono ?_
  rintro e w9 ⟨rfl, hb⟩
  have E9 := Lib.hid (E8.out.go hb)
  clear hb c0 c1 c2 c3 c4 c5 d0 d1 d2 d3 d4 d5
  go_wp2
  go_ret
  exact ⟨rfl, E9.out.bel⟩
theorem walk_StampOrders (w : World) (ht : TabM w) (a : St) (ha : StW a) (b : St) (hb : StW b) (d : Nat) (hd : d < 65536) (m : Nat) (hm : m < 65536) :
    Calls Tryd.prog 4 #[stV a, stV b, .int .u16 d, .int .u16 m] w fun e w' => e = .returned (.bool true) ∧ Below w.heap.size w w' := by
  by_cases h1 : okP a <;> by_cases h2 : okP b <;> by_cases h3 : okP (unSt d m)
  · exact ord_yyy a ha b hb d m hd hm h1 h2 h3 w ht
  · exact ord_yyn a ha b hb d m hd hm h1 h2 h3 w ht
  · exact ord_yny a ha b hb d m hd hm h1 h2 h3 w ht
  · exact ord_ynn a ha b hb d m hd hm h1 h2 h3 w ht
  · exact ord_nyy a ha b hb d m hd hm h1 h2 h3 w ht
  · exact ord_nyn a ha b hb d m hd hm h1 h2 h3 w ht
  · exact ord_nny a ha b hb d m hd hm h1 h2 h3 w ht
  · exact ord_nnn a ha b hb d m hd hm h1 h2 h3 w ht
end Go.Proofs.YtoodgbognpecjaaDoor
