/-
  LAW 20: TailTurns. No conditions. (WRITTEN by wip/gen20e.py.)
-/
import Derived.Test.YthpgeehfmblbhaaLaw20d
namespace Go.Proofs.Ythpgeehfmblbhaa
open Go.RowKit
set_option maxRecDepth 100000
set_option linter.unusedVariables false

theorem tl_neq2 (a b : Tl) (hne : a ≠ b) (w : World) : (binOp .neq 25 (tlV a) (tlV b)).run Try.prog w = .ok (.bool true) w := by
  obtain ⟨di, st, he, co, sz, o, d6, ds, o6⟩ := a
  obtain ⟨diu, stu, heu, cou, szu, ou, d6u, dsu, o6u⟩ := b
  unfold tlV tlC
  dsimp only
  go_simp
  intro h1 h2 h3 h4 h5 h6 h7 h8 h9
  have k1 : di = diu := by omega
  have k2 : st = stu := by omega
  have k3 : he = heu := by omega
  have k4 : co = cou := by omega
  have k5 : sz = szu := by omega
  have k6 : o = ou := by omega
  have k7 : d6 = d6u := by omega
  have k8 : ds = dsu := by omega
  have k9 : o6 = o6u := by omega
  subst k1 k2 k3 k4 k5 k6 k7 k8 k9
  exact hne rfl
theorem own_setT {w : World} {base p n c q i : Nat} {e : TypeId} {xs : List Value} {v : Value} (h : w.ownsRow base e 1 (.slice (some ⟨p, 0, none⟩) n c) n xs) (hne : p ≠ q) : (w.setCell ⟨q, i, none⟩ v).ownsRow base e 1 (.slice (some ⟨p, 0, none⟩) n c) n xs :=
  own_woutL (a := none) (b := none) ((WOut.refl q none w).setP i _) h fun g hg => by
    cases hg
    exact ⟨hne, fun e => by cases e⟩
/-- a tail in a box, its records, each in a block of its own -/
structure Tt20 (w W : World) (g1 : Nat) (C : Array Value) (p1 c1 : Nat) (X1 : List F) (p2 c2 : Nat) (X2 : List F) (p3 c3 : Nat) (X3 : List F) : Prop where
  b1 : Blk W g1 25 C
  o1 : W.ownsRow w.heap.size 5 1 (.slice (some ⟨p1, 0, none⟩) 56 c1) 56 (cs X1)
  o2 : W.ownsRow w.heap.size 5 1 (.slice (some ⟨p2, 0, none⟩) 20 c2) 20 (cs X2)
  o3 : W.ownsRow w.heap.size 5 1 (.slice (some ⟨p3, 0, none⟩) 22 c3) 22 (cs X3)
  lt1 : g1 < p1
  lt2 : p1 < p2
  lt3 : p2 < p3
  bel : Below w.heap.size w W
theorem Tt20.below {w W : World} {g1 : Nat} {C : Array Value} {p1 c1 : Nat} {X1 : List F} {p2 c2 : Nat} {X2 : List F} {p3 c3 : Nat} {X3 : List F} {W' : World} (a : Tt20 w W g1 C p1 c1 X1 p2 c2 X2 p3 c3 X3) (hb : Below W.heap.size W W') : Tt20 w W' g1 C p1 c1 X1 p2 c2 X2 p3 c3 X3 :=
  ⟨a.b1.below a.b1.lt hb, own_below a.o1 hb, own_below a.o2 hb, own_below a.o3 hb, a.lt1, a.lt2, a.lt3, a.bel.trans (hb.mono a.bel.size)⟩
theorem Tt20.alloc {w W : World} {g1 : Nat} {C : Array Value} {p1 c1 : Nat} {X1 : List F} {p2 c2 : Nat} {X2 : List F} {p3 c3 : Nat} {X3 : List F} (a : Tt20 w W g1 C p1 c1 X1 p2 c2 X2 p3 c3 X3) (o : Obj) : Tt20 w (W.alloc o) g1 C p1 c1 X1 p2 c2 X2 p3 c3 X3 := a.below ((Below.refl _ _).alloc (Nat.le_refl _) o)
theorem Tt20.store1 {w W : World} {g1 : Nat} {C : Array Value} {p1 c1 : Nat} {X1 : List F} {p2 c2 : Nat} {X2 : List F} {p3 c3 : Nat} {X3 : List F} (a : Tt20 w W g1 C p1 c1 X1 p2 c2 X2 p3 c3 X3) (k : Nat) (v : Value) (Y : List F) (h : (W.setCell ⟨p1, k, none⟩ v).ownsRow w.heap.size 5 1 (.slice (some ⟨p1, 0, none⟩) 56 c1) 56 (cs Y)) : Tt20 w (W.setCell ⟨p1, k, none⟩ v) g1 C p1 c1 Y p2 c2 X2 p3 c3 X3 :=
  have h1 := a.lt1
  have h2 := a.lt2
  have h3 := a.lt3
  ⟨a.b1.setOther (show g1 ≠ p1 by omega) v, h, own_setT a.o2 (by omega), own_setT a.o3 (by omega), h1, h2, h3, a.bel.setCell (p := ⟨p1, k, none⟩) (a.o1.lt p1 rfl).1 v⟩
theorem Tt20.store2 {w W : World} {g1 : Nat} {C : Array Value} {p1 c1 : Nat} {X1 : List F} {p2 c2 : Nat} {X2 : List F} {p3 c3 : Nat} {X3 : List F} (a : Tt20 w W g1 C p1 c1 X1 p2 c2 X2 p3 c3 X3) (k : Nat) (v : Value) (Y : List F) (h : (W.setCell ⟨p2, k, none⟩ v).ownsRow w.heap.size 5 1 (.slice (some ⟨p2, 0, none⟩) 20 c2) 20 (cs Y)) : Tt20 w (W.setCell ⟨p2, k, none⟩ v) g1 C p1 c1 X1 p2 c2 Y p3 c3 X3 :=
  have h1 := a.lt1
  have h2 := a.lt2
  have h3 := a.lt3
  ⟨a.b1.setOther (show g1 ≠ p2 by omega) v, own_setT a.o1 (by omega), h, own_setT a.o3 (by omega), h1, h2, h3, a.bel.setCell (p := ⟨p2, k, none⟩) (a.o2.lt p2 rfl).1 v⟩
theorem Tt20.store3 {w W : World} {g1 : Nat} {C : Array Value} {p1 c1 : Nat} {X1 : List F} {p2 c2 : Nat} {X2 : List F} {p3 c3 : Nat} {X3 : List F} (a : Tt20 w W g1 C p1 c1 X1 p2 c2 X2 p3 c3 X3) (k : Nat) (v : Value) (Y : List F) (h : (W.setCell ⟨p3, k, none⟩ v).ownsRow w.heap.size 5 1 (.slice (some ⟨p3, 0, none⟩) 22 c3) 22 (cs Y)) : Tt20 w (W.setCell ⟨p3, k, none⟩ v) g1 C p1 c1 X1 p2 c2 X2 p3 c3 Y :=
  have h1 := a.lt1
  have h2 := a.lt2
  have h3 := a.lt3
  ⟨a.b1.setOther (show g1 ≠ p3 by omega) v, own_setT a.o1 (by omega), own_setT a.o2 (by omega), h, h1, h2, h3, a.bel.setCell (p := ⟨p3, k, none⟩) (a.o3.lt p3 rfl).1 v⟩
set_option maxHeartbeats 16000000 in
theorem walk_TailTurns (w : World) (t : Tl) (ht : TlW t) (at_ : Int) (hat : (Lit.int .i64 at_).wf = true) (x : F) (u : Tl) (hu : TlW u) :
    Calls Try.prog 7 #[tlV t, .int .i64 at_, .int .u8 x.n, tlV u] w fun e w' => e = .returned (.bool true) ∧ Below w.heap.size w w' := by
  obtain ⟨z, hz, hzz⟩ : ∃ z : Nat, z ≤ 1023 ∧ bits .and .i64 at_ 1023 = (z : Int) := by
    have h := andLow at_ 10 (by decide)
    refine ⟨(at_ % 1024).toNat, by omega, ?_⟩
    have h2 : bits .and .i64 at_ 1023 = at_ % 1024 := h
    rw [h2]
    omega
  obtain ⟨p, hp, hpm⟩ : ∃ p : Nat, p < 98 ∧ ((z : Int)).tmod 98 = (p : Int) := ⟨z % 98, Nat.mod_lt _ (by decide), by rw [Int.tmod_eq_emod_of_nonneg (by omega)]; omega⟩
  have hba0 := (Below.refl (w.alloc (.cells (tlC t) 25)).heap.size (w.alloc (.cells (tlC t) 25))).alloc (Nat.le_refl _) (.cells (tlC u) 25)
  have HL0 := Lib.hid (((Below.refl w.heap.size w).alloc (Nat.le_refl _) (.cells (tlC t) 25)).trans (hba0.mono (by simp)))
  have HK1 := Lib.hid ((Blk.new w 25 (tlC t)).below (Blk.new w 25 (tlC t)).lt hba0)
  have HK2 := Lib.hid (Blk.new (w.alloc (.cells (tlC t) 25)) 25 (tlC u))
  have HZ : Hid ((w.alloc (.cells (tlC t) 25)).heap.size = w.heap.size + 1) := by unfold Hid; simp
  clear hba0
  have HG1 := Lib.hid (fun W => Great_c t ht W)
  have HG2 := Lib.hid (fun W => Locator_c t ht W)
  have HG3 := Lib.hid (fun W => End_c t ht W)
  have HU2 := Lib.hid (fun W => Locator_c u hu W)
  have hp1 := fun W A1 c1 A2 c2 A3 c3 h1 h2 h3 => ParseT_c A1 56 c1 (tlB1 t) A2 20 c2 (tlB2 u) A3 22 c3 (tlB3 t) W h1 h2 h3 (by omega) (by omega) (by omega)
  rw [prT_mix ht hu] at hp1
  have HP1 := Lib.hid hp1
  have HTW := Lib.hid ht
  have hbs : tlB1 t = nsB (tlP1 t) ∧ tlB2 t = nsB (tlP2 t) ∧ tlB3 t = nsB (tlP3 t) := ⟨rfl, rfl, rfl⟩
  clear hp1 ht hu
  change Hid (∀ (W : World) (A1 : Option Addr) (c1 : Nat) (A2 : Option Addr) (c2 : Nat) (A3 : Option Addr) (c3 : Nat), RowIn W A1 56 c1 (nsB (tlP1 t)) → RowIn W A2 20 c2 (nsB (tlP2 u)) → RowIn W A3 22 c3 (nsB (tlP3 t)) → _) at HP1
  generalize nsB (tlP1 t) = X1 at *
  generalize nsB (tlP2 t) = X2 at *
  generalize nsB (tlP3 t) = X3 at *
  generalize nsB (tlP2 u) = Y2 at *
  have HBS := Lib.hid hbs
  clear hbs
  obtain ⟨di, st, he, co, sz, o, d6, ds, o6⟩ := t
  obtain ⟨diu, stu, heu, cou, szu, ou, d6u, dsu, o6u⟩ := u
  unfold mixT at HP1
  unfold tlV tlC at *
  dsimp only at *
  go_enter Try.func7, Try.ntmps7
  go_wp2_with fail
  rw [← HZ.out]
  refine (alive20_c _).mono ?_
  rintro e W1 ⟨rfl, hb1⟩
  have HS : Hid (w.heap.size < (w.alloc (.cells #[.int .u32 di, .int .u32 st, .int .u64 he, .int .u64 co, .int .u64 sz, .int .u64 o, .int .u32 d6, .int .u32 ds, .int .u64 o6] 25)).heap.size) := by have := HZ.out; unfold Hid; omega
  clear HZ
  have HK3 := Lib.hid (HK1.out.below HK1.out.lt hb1)
  have HK4 := Lib.hid (HK2.out.below HK2.out.lt hb1)
  have HL1 := Lib.hid (HL0.out.trans (hb1.mono HL0.out.size))
  clear hb1 HK1 HK2 HL0
  generalize (w.alloc (.cells #[.int .u32 di, .int .u32 st, .int .u64 he, .int .u64 co, .int .u64 sz, .int .u64 o, .int .u32 d6, .int .u32 ds, .int .u64 o6] 25)).heap.size = g2 at *
  obtain ⟨g1, hg1⟩ : ∃ g, g = w.heap.size := ⟨_, rfl⟩
  have HGG := Lib.hid hg1
  rw [← hg1] at HK3 ⊢
  have HS' : Hid (g1 < g2) := by have := HS.out; unfold Hid; omega
  clear hg1 HS
  obtain ⟨d0, d1, d2, d3, d4, d5, d6', d7, d8⟩ := elv9 HK3.out
  have lg1 := HK3.out.lt
  go_wp2_with fail
  go_region_held3 (fun W' => W'.cell? ⟨g1, 0, none⟩ = some (.int .u32 di) ∧ W'.cell? ⟨g1, 1, none⟩ = some (.int .u32 st) ∧ W'.cell? ⟨g1, 2, none⟩ = some (.int .u64 he) ∧ W'.cell? ⟨g1, 3, none⟩ = some (.int .u64 co) ∧ W'.cell? ⟨g1, 4, none⟩ = some (.int .u64 sz) ∧ W'.cell? ⟨g1, 5, none⟩ = some (.int .u64 o) ∧ W'.cell? ⟨g1, 6, none⟩ = some (.int .u32 d6) ∧ W'.cell? ⟨g1, 7, none⟩ = some (.int .u32 ds) ∧ W'.cell? ⟨g1, 8, none⟩ = some (.int .u64 o6)) (first
      | go_keep
      | (go_split_ands; exact ⟨(hba.cell (p := ⟨g1, 0, none⟩) (by first | exact lg1)).trans (by assumption), (hba.cell (p := ⟨g1, 1, none⟩) (by first | exact lg1)).trans (by assumption), (hba.cell (p := ⟨g1, 2, none⟩) (by first | exact lg1)).trans (by assumption), (hba.cell (p := ⟨g1, 3, none⟩) (by first | exact lg1)).trans (by assumption), (hba.cell (p := ⟨g1, 4, none⟩) (by first | exact lg1)).trans (by assumption), (hba.cell (p := ⟨g1, 5, none⟩) (by first | exact lg1)).trans (by assumption), (hba.cell (p := ⟨g1, 6, none⟩) (by first | exact lg1)).trans (by assumption), (hba.cell (p := ⟨g1, 7, none⟩) (by first | exact lg1)).trans (by assumption), (hba.cell (p := ⟨g1, 8, none⟩) (by first | exact lg1)).trans (by assumption)⟩)
      | (go_split_ands; exact ⟨(hbb.cell (p := ⟨g1, 0, none⟩) (by first | exact lg1 | exact Nat.lt_of_lt_of_le lg1 hba.size)).trans (by assumption), (hbb.cell (p := ⟨g1, 1, none⟩) (by first | exact lg1 | exact Nat.lt_of_lt_of_le lg1 hba.size)).trans (by assumption), (hbb.cell (p := ⟨g1, 2, none⟩) (by first | exact lg1 | exact Nat.lt_of_lt_of_le lg1 hba.size)).trans (by assumption), (hbb.cell (p := ⟨g1, 3, none⟩) (by first | exact lg1 | exact Nat.lt_of_lt_of_le lg1 hba.size)).trans (by assumption), (hbb.cell (p := ⟨g1, 4, none⟩) (by first | exact lg1 | exact Nat.lt_of_lt_of_le lg1 hba.size)).trans (by assumption), (hbb.cell (p := ⟨g1, 5, none⟩) (by first | exact lg1 | exact Nat.lt_of_lt_of_le lg1 hba.size)).trans (by assumption), (hbb.cell (p := ⟨g1, 6, none⟩) (by first | exact lg1 | exact Nat.lt_of_lt_of_le lg1 hba.size)).trans (by assumption), (hbb.cell (p := ⟨g1, 7, none⟩) (by first | exact lg1 | exact Nat.lt_of_lt_of_le lg1 hba.size)).trans (by assumption), (hbb.cell (p := ⟨g1, 8, none⟩) (by first | exact lg1 | exact Nat.lt_of_lt_of_le lg1 hba.size)).trans (by assumption)⟩)
      | (go_split_ands; exact ⟨(hbc.cell (p := ⟨g1, 0, none⟩) (by first | exact lg1 | exact Nat.lt_of_lt_of_le lg1 hba.size | exact Nat.lt_of_lt_of_le (Nat.lt_of_lt_of_le lg1 hba.size) hbb.size)).trans (by assumption), (hbc.cell (p := ⟨g1, 1, none⟩) (by first | exact lg1 | exact Nat.lt_of_lt_of_le lg1 hba.size | exact Nat.lt_of_lt_of_le (Nat.lt_of_lt_of_le lg1 hba.size) hbb.size)).trans (by assumption), (hbc.cell (p := ⟨g1, 2, none⟩) (by first | exact lg1 | exact Nat.lt_of_lt_of_le lg1 hba.size | exact Nat.lt_of_lt_of_le (Nat.lt_of_lt_of_le lg1 hba.size) hbb.size)).trans (by assumption), (hbc.cell (p := ⟨g1, 3, none⟩) (by first | exact lg1 | exact Nat.lt_of_lt_of_le lg1 hba.size | exact Nat.lt_of_lt_of_le (Nat.lt_of_lt_of_le lg1 hba.size) hbb.size)).trans (by assumption), (hbc.cell (p := ⟨g1, 4, none⟩) (by first | exact lg1 | exact Nat.lt_of_lt_of_le lg1 hba.size | exact Nat.lt_of_lt_of_le (Nat.lt_of_lt_of_le lg1 hba.size) hbb.size)).trans (by assumption), (hbc.cell (p := ⟨g1, 5, none⟩) (by first | exact lg1 | exact Nat.lt_of_lt_of_le lg1 hba.size | exact Nat.lt_of_lt_of_le (Nat.lt_of_lt_of_le lg1 hba.size) hbb.size)).trans (by assumption), (hbc.cell (p := ⟨g1, 6, none⟩) (by first | exact lg1 | exact Nat.lt_of_lt_of_le lg1 hba.size | exact Nat.lt_of_lt_of_le (Nat.lt_of_lt_of_le lg1 hba.size) hbb.size)).trans (by assumption), (hbc.cell (p := ⟨g1, 7, none⟩) (by first | exact lg1 | exact Nat.lt_of_lt_of_le lg1 hba.size | exact Nat.lt_of_lt_of_le (Nat.lt_of_lt_of_le lg1 hba.size) hbb.size)).trans (by assumption), (hbc.cell (p := ⟨g1, 8, none⟩) (by first | exact lg1 | exact Nat.lt_of_lt_of_le lg1 hba.size | exact Nat.lt_of_lt_of_le (Nat.lt_of_lt_of_le lg1 hba.size) hbb.size)).trans (by assumption)⟩))
      ((first
        | (go_at_call 10
           refine (HG1.out _).mono ?_
           rintro e wa ⟨A1, c1, rfl, ho1, hba⟩)
        | (go_at_call 12
           refine (HG2.out _).mono ?_
           rintro e wb ⟨A2, c2, rfl, ho2, hbb⟩)
        | (go_at_call 14
           refine (HG3.out _).mono ?_
           rintro e wc ⟨A3, c3, rfl, ho3, hbc⟩)))
  obtain ⟨p1, rfl, hp1a, hp1b⟩ := own_addr ho1 (by omega)
  obtain ⟨p2, rfl, hp2a, hp2b⟩ := own_addr ho2 (by omega)
  obtain ⟨p3, rfl, hp3a, hp3b⟩ := own_addr ho3 (by omega)
  have TT : Hid (Tt20 w wc g1 #[.int .u32 di, .int .u32 st, .int .u64 he, .int .u64 co, .int .u64 sz, .int .u64 o, .int .u32 d6, .int .u32 ds, .int .u64 o6] p1 c1 X1 p2 c2 X2 p3 c3 X3) ∧ Hid (Blk wc g2 25 #[.int .u32 diu, .int .u32 stu, .int .u64 heu, .int .u64 cou, .int .u64 szu, .int .u64 ou, .int .u32 d6u, .int .u32 dsu, .int .u64 o6u]) := by
    have b0 : Below W1.heap.size W1 wc := ((below_drewL (Below.refl W1.heap.size W1)).trans (hba.mono (Nat.le_refl _))).trans ((hbb.mono hba.size).trans (hbc.mono (Nat.le_trans hba.size hbb.size)))
    have hs1 : w.heap.size ≤ W1.heap.size := HL1.out.size
    have hs2 : W1.heap.size ≤ wa.heap.size := hba.size
    have hs3 := hbb.size
    have hlt := HK3.out.lt
    have hpa : W1.heap.size ≤ p1 := hp1a
    exact ⟨⟨HK3.out.below HK3.out.lt b0, own_base2 (own_below (own_below ho1 hbb) hbc) hs1, own_base2 (own_below ho2 hbc) (by omega), own_base2 ho3 (by omega), by omega, by omega, by omega, HL1.out.trans (b0.mono hs1)⟩, HK4.out.below HK4.out.lt b0⟩
  obtain ⟨TT, HK5⟩ := TT
  clear ho1 ho2 ho3 hba hbb hbc HK3 HK4 HL1 d0 d1 d2 d3 d4 d5 d6' d7 d8 lg1 hp1a hp1b hp2a hp2b hp3a hp3b
  have q0 := ld_tl HK5.out rfl
  go_wp2_with (with_reducible refine wpList_load_var _ _ (by with_unfolding_all rfl) q0 ?_)
  refine (HU2.out _).mono ?_
  rintro e W2 ⟨A2, e2, rfl, ho2, hb2⟩
  have TT2 := Lib.hid (TT.out.below hb2)
  have HK6 := Lib.hid (HK5.out.below HK5.out.lt hb2)
  clear TT HK5 hb2 q0
  go_wp2_with fail
  refine (HP1.out _ _ _ _ _ _ _ (own_in TT2.out.o1) (own_in ho2) (own_in TT2.out.o3)).mono ?_
  rintro e W3 ⟨rfl, hb3⟩
  have TT3 := Lib.hid ((TT2.out.below hb3).alloc (.cells #[.int .u32 di, .int .u32 st, .int .u64 he, .int .u64 co, .int .u64 sz, .int .u64 o, .int .u32 d6u, .int .u32 dsu, .int .u64 o6u] 25))
  have HK7 := Lib.hid ((HK6.out.below HK6.out.lt hb3).allocT (.cells #[.int .u32 di, .int .u32 st, .int .u64 he, .int .u64 co, .int .u64 sz, .int .u64 o, .int .u32 d6u, .int .u32 dsu, .int .u64 o6u] 25))
  have HJ7 := Lib.hid (Blk.new W3 25 #[.int .u32 di, .int .u32 st, .int .u64 he, .int .u64 co, .int .u64 sz, .int .u64 o, .int .u32 d6u, .int .u32 dsu, .int .u64 o6u])
  clear TT2 HK6 hb3 ho2
  have q0 := ld_tl TT3.out.b1 rfl
  go_wp2_with (with_reducible refine wpList_load_var _ _ (by with_unfolding_all rfl) q0 ?_)
  rw [show W3.heap.size + 1 = (W3.alloc (.cells #[.int .u32 di, .int .u32 st, .int .u64 he, .int .u64 co, .int .u64 sz, .int .u64 o, .int .u32 d6u, .int .u32 dsu, .int .u64 o6u] 25)).heap.size by simp]
  generalize W3.alloc (.cells #[.int .u32 di, .int .u32 st, .int .u64 he, .int .u64 co, .int .u64 sz, .int .u64 o, .int .u32 d6u, .int .u32 dsu, .int .u64 o6u] 25) = W4 at *
  generalize W3.heap.size = g5 at *
  obtain ⟨f0, f1, f2, f3, f4, f5, f6, f7, f8⟩ := elv9 HK7.out
  have lg2 := HK7.out.lt
  go_region_held3 (fun W' => W'.cell? ⟨g2, 6, none⟩ = some (.int .u32 d6u) ∧ W'.cell? ⟨g2, 7, none⟩ = some (.int .u32 dsu) ∧ W'.cell? ⟨g2, 8, none⟩ = some (.int .u64 o6u)) (go_keep) (fail)
  have TT : Hid (Tt20 w ((W4.alloc (.cells #[.int .u32 di, .int .u32 st, .int .u64 he, .int .u64 co, .int .u64 sz, .int .u64 o, .int .u32 d6u, .int .u32 dsu, .int .u64 o6u] 25)).drew) g1 #[.int .u32 di, .int .u32 st, .int .u64 he, .int .u64 co, .int .u64 sz, .int .u64 o, .int .u32 d6, .int .u32 ds, .int .u64 o6] p1 c1 X1 p2 c2 X2 p3 c3 X3) := by
    have h := TT3.out.alloc (.cells #[.int .u32 di, .int .u32 st, .int .u64 he, .int .u64 co, .int .u64 sz, .int .u64 o, .int .u32 d6u, .int .u32 dsu, .int .u64 o6u] 25)
    exact ⟨h.b1, h.o1, h.o2, h.o3, h.lt1, h.lt2, h.lt3, below_drewL h.bel⟩
  have K12 : Hid (Blk ((W4.alloc (.cells #[.int .u32 di, .int .u32 st, .int .u64 he, .int .u64 co, .int .u64 sz, .int .u64 o, .int .u32 d6u, .int .u32 dsu, .int .u64 o6u] 25)).drew) g5 25 #[.int .u32 di, .int .u32 st, .int .u64 he, .int .u64 co, .int .u64 sz, .int .u64 o, .int .u32 d6u, .int .u32 dsu, .int .u64 o6u]) := HJ7.out.allocT _
  have K14 : Hid (Blk ((W4.alloc (.cells #[.int .u32 di, .int .u32 st, .int .u64 he, .int .u64 co, .int .u64 sz, .int .u64 o, .int .u32 d6u, .int .u32 dsu, .int .u64 o6u] 25)).drew) W4.heap.size 25 #[.int .u32 di, .int .u32 st, .int .u64 he, .int .u64 co, .int .u64 sz, .int .u64 o, .int .u32 d6u, .int .u32 dsu, .int .u64 o6u]) := Blk.new W4 _ _
  clear TT3 HK7 HJ7 f0 f1 f2 f3 f4 f5 f6 f7 f8 lg2 q0
  generalize (W4.alloc (.cells #[.int .u32 di, .int .u32 st, .int .u64 he, .int .u64 co, .int .u64 sz, .int .u64 o, .int .u32 d6u, .int .u32 dsu, .int .u64 o6u] 25)).drew = W5 at *
  generalize W4.heap.size = g6 at *
  obtain ⟨d0, d1, d2, d3, d4, d5, d6', d7, d8⟩ := elv9 K12.out
  obtain ⟨f0, f1, f2, f3, f4, f5, f6, f7, f8⟩ := elv9 K14.out
  clear K12 K14
  have hpm2 : (z : Int) % 98 = (p : Int) := by rw [← hpm, Int.tmod_eq_emod_of_nonneg (by omega)]
  have hb0 := n_beq x
  by_cases hx0 : x = 0
  · rw [decide_eq_true hx0] at hb0
    have HBL := Lib.hid TT.out.bel
    clear TT
    go_wp2
    go_ret
    exact ⟨rfl, HBL.out⟩
  · rw [decide_eq_false hx0] at hb0
    have HX0 : Hid (x ≠ 0) := hx0
    clear hx0
    have j0 : (0 : Int) ≤ (p : Int) := by omega
    by_cases h56 : p < 56
    · have j1 : (p : Int) < 56 := by omega
      have hX1 := TT.out.o1
      have hp1 : p < X1.length := by have := own_len hX1; omega
      have hcp := hX1.cellAt (p) (by have := own_len hX1; omega)
      rw [cs_at hp1] at hcp
      have hfz := hX1.frozenAt (p)
      have hx2 := bits_xor (gt X1 (p)) x
      have hst := (hX1.stored (p) (.int .u8 (gt X1 (p) + x).n)).1
      rw [cs_set] at hst
      have hne := ne_set_xor hp1 HX0.out
      have HNE := Lib.hid hne
      have TT2 := Lib.hid (TT.out.store1 (p) (.int .u8 (gt X1 (p) + x).n) _ hst)
      clear hX1 hst hne hp1
      go_wp2_with fail
      have TT3 := TT2
      clear TT2 TT hcp hfz hx2
      have TT := TT3
      clear TT3
      have hpn := prT_not (t := (⟨di, st, he, co, sz, o, d6, ds, o6⟩ : Tl)) HTW.out (a := (X1.set (p) (gt X1 (p) + x))) (b := X2) (c := X3) (fun e => HNE.out (HBS.out.1.symm.trans e.1))
      have HPP := Lib.hid (fun W A1 c1 A2 c2 A3 c3 h1 h2 h3 => ParseT_c A1 56 c1 ((X1.set (p) (gt X1 (p) + x))) A2 20 c2 (X2) A3 22 c3 (X3) W h1 h2 h3 (by omega) (by omega) (by omega))
      generalize prT ((X1.set (p) (gt X1 (p) + x))) (X2) (X3) = P at *
      obtain ⟨⟨dip, stp, hep, cop, szp, op, d6p, dsp, o6p⟩, er⟩ := P
      have HPN := Lib.hid hpn
      clear hpn
      unfold tlV tlC at HPP
      dsimp only at HPP
      refine (HPP.out _ _ _ _ _ _ _ (own_in TT.out.o1) (own_in TT.out.o2) (own_in TT.out.o3)).mono ?_
      rintro e W10 ⟨rfl, hb10⟩
      have hk10 := TT.out.b1.below TT.out.b1.lt hb10
      have hl10 := TT.out.bel.trans (hb10.mono TT.out.bel.size)
      have hba := (Below.refl W10.heap.size W10).alloc (Nat.le_refl _) (.cells #[.int .u32 dip, .int .u32 stp, .int .u64 hep, .int .u64 cop, .int .u64 szp, .int .u64 op, .int .u32 d6p, .int .u32 dsp, .int .u64 o6p] 25)
      have HK10 := Lib.hid (hk10.below hk10.lt hba)
      have HL10 := Lib.hid (hl10.trans (hba.mono hl10.size))
      have HJ10 := Lib.hid (Blk.new W10 25 #[.int .u32 dip, .int .u32 stp, .int .u64 hep, .int .u64 cop, .int .u64 szp, .int .u64 op, .int .u32 d6p, .int .u32 dsp, .int .u64 o6p])
      clear hk10 hl10 hba hb10
      obtain ⟨x0, x1, x2, x3, x4, x5, x6, x7, x8⟩ := elv9 HK10.out
      obtain ⟨y0, y1, y2, y3, y4, y5, y6, y7, y8⟩ := elv9 HJ10.out
      rcases HPN.out with hq | hq
      · obtain ⟨q0, q1⟩ := hq
        have e0 : (er != 0) = true := by rw [bne_iff_ne]; exact q0
        obtain ⟨rfl, rfl, rfl, rfl, rfl, rfl, rfl, rfl, rfl⟩ := tl_zero q1
        go_wp2
        go_ret
        exact ⟨rfl, HL10.out⟩
      · obtain ⟨q0, q1⟩ := hq
        subst q0
        have hnq := tl_neq2 _ _ q1
        unfold tlV tlC at hnq
        dsimp only at hnq
        go_wp2
        go_ret
        exact ⟨rfl, HL10.out⟩
    · have j1 : ¬ (p : Int) < 56 := by omega
      by_cases h76 : p < 76
      · have j2 : (p : Int) < 76 := by omega
        obtain ⟨k, hk, hk20⟩ : ∃ k : Nat, (p : Int) - 56 = (k : Int) ∧ k < 20 := ⟨p - 56, by omega, by omega⟩
        have j3 : (k : Int) < 20 := by omega
        have j4 : (0 : Int) ≤ (k : Int) := by omega
        have j5 : IntKind.i64.wrap ((p : Int) - 56) = (k : Int) := by rw [hk]; exact IntWalk.i64_in _ (by omega)
        have hX2 := TT.out.o2
        have hp1 : k < X2.length := by have := own_len hX2; omega
        have hcp := hX2.cellAt (k) (by have := own_len hX2; omega)
        rw [cs_at hp1] at hcp
        have hfz := hX2.frozenAt (k)
        have hx2 := bits_xor (gt X2 (k)) x
        have hst := (hX2.stored (k) (.int .u8 (gt X2 (k) + x).n)).1
        rw [cs_set] at hst
        have hne := ne_set_xor hp1 HX0.out
        have HNE := Lib.hid hne
        have TT2 := Lib.hid (TT.out.store2 (k) (.int .u8 (gt X2 (k) + x).n) _ hst)
        clear hX2 hst hne hp1
        go_wp2_with fail
        have TT3 := TT2
        clear TT2 TT hcp hfz hx2
        have TT := TT3
        clear TT3
        have hpn := prT_not (t := (⟨di, st, he, co, sz, o, d6, ds, o6⟩ : Tl)) HTW.out (a := X1) (b := (X2.set (k) (gt X2 (k) + x))) (c := X3) (fun e => HNE.out (HBS.out.2.1.symm.trans e.2.1))
        have HPP := Lib.hid (fun W A1 c1 A2 c2 A3 c3 h1 h2 h3 => ParseT_c A1 56 c1 (X1) A2 20 c2 ((X2.set (k) (gt X2 (k) + x))) A3 22 c3 (X3) W h1 h2 h3 (by omega) (by omega) (by omega))
        generalize prT (X1) ((X2.set (k) (gt X2 (k) + x))) (X3) = P at *
        obtain ⟨⟨dip, stp, hep, cop, szp, op, d6p, dsp, o6p⟩, er⟩ := P
        have HPN := Lib.hid hpn
        clear hpn
        unfold tlV tlC at HPP
        dsimp only at HPP
        refine (HPP.out _ _ _ _ _ _ _ (own_in TT.out.o1) (own_in TT.out.o2) (own_in TT.out.o3)).mono ?_
        rintro e W10 ⟨rfl, hb10⟩
        have hk10 := TT.out.b1.below TT.out.b1.lt hb10
        have hl10 := TT.out.bel.trans (hb10.mono TT.out.bel.size)
        have hba := (Below.refl W10.heap.size W10).alloc (Nat.le_refl _) (.cells #[.int .u32 dip, .int .u32 stp, .int .u64 hep, .int .u64 cop, .int .u64 szp, .int .u64 op, .int .u32 d6p, .int .u32 dsp, .int .u64 o6p] 25)
        have HK10 := Lib.hid (hk10.below hk10.lt hba)
        have HL10 := Lib.hid (hl10.trans (hba.mono hl10.size))
        have HJ10 := Lib.hid (Blk.new W10 25 #[.int .u32 dip, .int .u32 stp, .int .u64 hep, .int .u64 cop, .int .u64 szp, .int .u64 op, .int .u32 d6p, .int .u32 dsp, .int .u64 o6p])
        clear hk10 hl10 hba hb10
        obtain ⟨x0, x1, x2, x3, x4, x5, x6, x7, x8⟩ := elv9 HK10.out
        obtain ⟨y0, y1, y2, y3, y4, y5, y6, y7, y8⟩ := elv9 HJ10.out
        rcases HPN.out with hq | hq
        · obtain ⟨q0, q1⟩ := hq
          have e0 : (er != 0) = true := by rw [bne_iff_ne]; exact q0
          obtain ⟨rfl, rfl, rfl, rfl, rfl, rfl, rfl, rfl, rfl⟩ := tl_zero q1
          go_wp2
          go_ret
          exact ⟨rfl, HL10.out⟩
        · obtain ⟨q0, q1⟩ := hq
          subst q0
          have hnq := tl_neq2 _ _ q1
          unfold tlV tlC at hnq
          dsimp only at hnq
          go_wp2
          go_ret
          exact ⟨rfl, HL10.out⟩
      · have j2 : ¬ (p : Int) < 76 := by omega
        obtain ⟨k, hk, hk20⟩ : ∃ k : Nat, (p : Int) - 76 = (k : Int) ∧ k < 22 := ⟨p - 76, by omega, by omega⟩
        have j3 : (k : Int) < 22 := by omega
        have j4 : (0 : Int) ≤ (k : Int) := by omega
        have j5 : IntKind.i64.wrap ((p : Int) - 76) = (k : Int) := by rw [hk]; exact IntWalk.i64_in _ (by omega)
        have hX3 := TT.out.o3
        have hp1 : k < X3.length := by have := own_len hX3; omega
        have hcp := hX3.cellAt (k) (by have := own_len hX3; omega)
        rw [cs_at hp1] at hcp
        have hfz := hX3.frozenAt (k)
        have hx2 := bits_xor (gt X3 (k)) x
        have hst := (hX3.stored (k) (.int .u8 (gt X3 (k) + x).n)).1
        rw [cs_set] at hst
        have hne := ne_set_xor hp1 HX0.out
        have HNE := Lib.hid hne
        have TT2 := Lib.hid (TT.out.store3 (k) (.int .u8 (gt X3 (k) + x).n) _ hst)
        clear hX3 hst hne hp1
        go_wp2_with fail
        have TT3 := TT2
        clear TT2 TT hcp hfz hx2
        have TT := TT3
        clear TT3
        have hpn := prT_not (t := (⟨di, st, he, co, sz, o, d6, ds, o6⟩ : Tl)) HTW.out (a := X1) (b := X2) (c := (X3.set (k) (gt X3 (k) + x))) (fun e => HNE.out (HBS.out.2.2.symm.trans e.2.2))
        have HPP := Lib.hid (fun W A1 c1 A2 c2 A3 c3 h1 h2 h3 => ParseT_c A1 56 c1 (X1) A2 20 c2 (X2) A3 22 c3 ((X3.set (k) (gt X3 (k) + x))) W h1 h2 h3 (by omega) (by omega) (by omega))
        generalize prT (X1) (X2) ((X3.set (k) (gt X3 (k) + x))) = P at *
        obtain ⟨⟨dip, stp, hep, cop, szp, op, d6p, dsp, o6p⟩, er⟩ := P
        have HPN := Lib.hid hpn
        clear hpn
        unfold tlV tlC at HPP
        dsimp only at HPP
        refine (HPP.out _ _ _ _ _ _ _ (own_in TT.out.o1) (own_in TT.out.o2) (own_in TT.out.o3)).mono ?_
        rintro e W10 ⟨rfl, hb10⟩
        have hk10 := TT.out.b1.below TT.out.b1.lt hb10
        have hl10 := TT.out.bel.trans (hb10.mono TT.out.bel.size)
        have hba := (Below.refl W10.heap.size W10).alloc (Nat.le_refl _) (.cells #[.int .u32 dip, .int .u32 stp, .int .u64 hep, .int .u64 cop, .int .u64 szp, .int .u64 op, .int .u32 d6p, .int .u32 dsp, .int .u64 o6p] 25)
        have HK10 := Lib.hid (hk10.below hk10.lt hba)
        have HL10 := Lib.hid (hl10.trans (hba.mono hl10.size))
        have HJ10 := Lib.hid (Blk.new W10 25 #[.int .u32 dip, .int .u32 stp, .int .u64 hep, .int .u64 cop, .int .u64 szp, .int .u64 op, .int .u32 d6p, .int .u32 dsp, .int .u64 o6p])
        clear hk10 hl10 hba hb10
        obtain ⟨x0, x1, x2, x3, x4, x5, x6, x7, x8⟩ := elv9 HK10.out
        obtain ⟨y0, y1, y2, y3, y4, y5, y6, y7, y8⟩ := elv9 HJ10.out
        rcases HPN.out with hq | hq
        · obtain ⟨q0, q1⟩ := hq
          have e0 : (er != 0) = true := by rw [bne_iff_ne]; exact q0
          obtain ⟨rfl, rfl, rfl, rfl, rfl, rfl, rfl, rfl, rfl⟩ := tl_zero q1
          go_wp2
          go_ret
          exact ⟨rfl, HL10.out⟩
        · obtain ⟨q0, q1⟩ := hq
          subst q0
          have hnq := tl_neq2 _ _ q1
          unfold tlV tlC at hnq
          dsimp only at hnq
          go_wp2
          go_ret
          exact ⟨rfl, HL10.out⟩
end Go.Proofs.Ythpgeehfmblbhaa
