/-
  LAW 20: TailBack. No conditions. (WRITTEN by wip/gen20d.py.)
-/
import Derived.Test.YthpgeehfmblbhaaLaw20
namespace Go.Proofs.Ythpgeehfmblbhaa
open Go.RowKit
set_option maxRecDepth 100000
set_option linter.unusedVariables false

theorem SameN_c (A B : Option Addr) (n m ca cb : Nat) (a b : List F) (w : World) (ha : Row w A n a) (hb : Row w B m b) (hne : a ≠ b) :
    Calls Try.prog 9 #[.slice A n ca, .slice B m cb] w fun e w' => e = .returned (.bool false) ∧ ∃ q, w' = w.drewN q := by
  have h := SameA_c A B n m ca cb a b w ha hb
  rw [decide_eq_false hne] at h
  exact h
/-- behind a call whose world was drawn from -/
theorem Row.belowD {w w' : World} {A : Option Addr} {n : Nat} {l : List F} (h : Row w A n l) (hb : Below w.drew.heap.size w.drew w') : Row w' A n l := h.drew.below hb
theorem Row.belowN {w w' : World} {A : Option Addr} {n q : Nat} {l : List F} (h : Row w A n l) (hb : Below (w.drewN q).heap.size (w.drewN q) w') : Row w' A n l := (h.drewN q).below hb
theorem tl_neq (a b : Tl) (hne : a ≠ b) (w : World) : (binOp .eql 25 (tlV a) (tlV b)).run Try.prog w = .ok (.bool false) w := by
  obtain ⟨di, st, he, co, sz, o, d6, ds, o6⟩ := a
  obtain ⟨diu, stu, heu, cou, szu, ou, d6u, dsu, o6u⟩ := b
  unfold tlV tlC
  dsimp only
  go_simp
  intro h1 h2 h3 h4 h5 h6 h7 h8 h9
  have k1 : di = diu := by omega
  have k2 : st = stu := by omega
  have k3 : he = heu := by omega
  have k4 : co = cou := by omega
  have k5 : sz = szu := by omega
  have k6 : o = ou := by omega
  have k7 : d6 = d6u := by omega
  have k8 : ds = dsu := by omega
  have k9 : o6 = o6u := by omega
  subst k1 k2 k3 k4 k5 k6 k7 k8 k9
  exact hne rfl
theorem tl_zero {dip stp hep cop szp op d6p dsp o6p : Nat} (h : (⟨dip, stp, hep, cop, szp, op, d6p, dsp, o6p⟩ : Tl) = tl0) : 0 = dip ∧ 0 = stp ∧ 0 = hep ∧ 0 = cop ∧ 0 = szp ∧ 0 = op ∧ 0 = d6p ∧ 0 = dsp ∧ 0 = o6p := by
  unfold tl0 at h
  injection h with h1 h2 h3 h4 h5 h6 h7 h8 h9
  exact ⟨h1.symm, h2.symm, h3.symm, h4.symm, h5.symm, h6.symm, h7.symm, h8.symm, h9.symm⟩
/-- two tails in boxes, the first one's records -/
structure Tk20 (w W : World) (g1 g2 : Nat) (C D : Array Value) (A1 : Option Addr) (c1 : Nat) (X1 : List F) (A2 : Option Addr) (c2 : Nat) (X2 : List F) (A3 : Option Addr) (c3 : Nat) (X3 : List F) : Prop where
  b1 : Blk W g1 25 C
  b2 : Blk W g2 25 D
  r1 : RowIn W A1 56 c1 X1
  r2 : RowIn W A2 20 c2 X2
  r3 : RowIn W A3 22 c3 X3
  bel : Below w.heap.size w W
theorem Tk20.below {w W W' : World} {g1 g2 : Nat} {C D : Array Value} {A1 : Option Addr} {c1 : Nat} {X1 : List F} {A2 : Option Addr} {c2 : Nat} {X2 : List F} {A3 : Option Addr} {c3 : Nat} {X3 : List F} (a : Tk20 w W g1 g2 C D A1 c1 X1 A2 c2 X2 A3 c3 X3) (hb : Below W.heap.size W W') : Tk20 w W' g1 g2 C D A1 c1 X1 A2 c2 X2 A3 c3 X3 :=
  ⟨a.b1.below a.b1.lt hb, a.b2.below a.b2.lt hb, a.r1.below hb, a.r2.below hb, a.r3.below hb, a.bel.trans (hb.mono a.bel.size)⟩
theorem Tk20.alloc {w W : World} {g1 g2 : Nat} {C D : Array Value} {A1 : Option Addr} {c1 : Nat} {X1 : List F} {A2 : Option Addr} {c2 : Nat} {X2 : List F} {A3 : Option Addr} {c3 : Nat} {X3 : List F} (a : Tk20 w W g1 g2 C D A1 c1 X1 A2 c2 X2 A3 c3 X3) (o : Obj) : Tk20 w (W.alloc o) g1 g2 C D A1 c1 X1 A2 c2 X2 A3 c3 X3 := a.below ((Below.refl _ _).alloc (Nat.le_refl _) o)
set_option maxHeartbeats 16000000 in
theorem walk_TailBack (w : World) (t : Tl) (ht : TlW t) (u : Tl) (hu : TlW u) (A : Option Addr) (n c : Nat) (a : List F) (hA : RowIn w A n c a) (B : Option Addr) (m d : Nat) (b : List F) (hB : RowIn w B m d b) (C : Option Addr) (k f : Nat) (z : List F) (hC : RowIn w C k f z) :
    Calls Try.prog 5 #[tlV t, tlV u, .slice A n c, .slice B m d, .slice C k f] w fun e w' => e = .returned (.bool true) ∧ Below w.heap.size w w' := by
  have HA := Lib.hid hA
  have HB := Lib.hid hB
  have HC := Lib.hid hC
  have hba0 := (Below.refl (w.alloc (.cells (tlC t) 25)).heap.size (w.alloc (.cells (tlC t) 25))).alloc (Nat.le_refl _) (.cells (tlC u) 25)
  have HL0 := Lib.hid (((Below.refl w.heap.size w).alloc (Nat.le_refl _) (.cells (tlC t) 25)).trans (hba0.mono (by simp)))
  have HK1 := Lib.hid ((Blk.new w 25 (tlC t)).below (Blk.new w 25 (tlC t)).lt hba0)
  have HK2 := Lib.hid (Blk.new (w.alloc (.cells (tlC t) 25)) 25 (tlC u))
  have HZ : Hid ((w.alloc (.cells (tlC t) 25)).heap.size = w.heap.size + 1) := by unfold Hid; simp
  clear hba0
  by_cases hb : 100 < n ∨ 100 < m ∨ 100 < k
  · clear hA hB hC HA HB HC HK1 HK2 HZ
    obtain ⟨di, st, he, co, sz, o, d6, ds, o6⟩ := t
    obtain ⟨diu, stu, heu, cou, szu, ou, d6u, dsu, o6u⟩ := u
    unfold tlV tlC at *
    dsimp only at *
    by_cases h1 : 100 < n
    · have i1 : (100 : Int) < (n : Int) := by omega
      go_enter Try.func5, Try.ntmps5
      go_wp2_with fail
      refine (alive20_c _).mono ?_
      rintro e W1 ⟨rfl, hb1⟩
      go_wp2
      go_ret
      exact ⟨rfl, HL0.out.trans (hb1.mono HL0.out.size)⟩
    · have i1 : ¬ (100 : Int) < (n : Int) := by omega
      by_cases h2 : 100 < m
      · have i2 : (100 : Int) < (m : Int) := by omega
        go_enter Try.func5, Try.ntmps5
        go_wp2_with fail
        refine (alive20_c _).mono ?_
        rintro e W1 ⟨rfl, hb1⟩
        go_wp2
        go_ret
        exact ⟨rfl, HL0.out.trans (hb1.mono HL0.out.size)⟩
      · have i2 : ¬ (100 : Int) < (m : Int) := by omega
        have i3 : (100 : Int) < (k : Int) := by omega
        go_enter Try.func5, Try.ntmps5
        go_wp2_with fail
        refine (alive20_c _).mono ?_
        rintro e W1 ⟨rfl, hb1⟩
        go_wp2
        go_ret
        exact ⟨rfl, HL0.out.trans (hb1.mono HL0.out.size)⟩
  · have i1 : ¬ (100 : Int) < (n : Int) := by omega
    have i2 : ¬ (100 : Int) < (m : Int) := by omega
    have i3 : ¬ (100 : Int) < (k : Int) := by omega
    have HPZ := Lib.hid (fun W (h1 : RowIn W A n c a) (h2 : RowIn W B m d b) (h3 : RowIn W C k f z) => ParseT_c A n c a B m d b C k f z W h1 h2 h3 (by omega) (by omega) (by omega))
    have HPB := Lib.hid (prT_back a b z)
    have HG1 := Lib.hid (fun W => Great_c t ht W)
    have HG2 := Lib.hid (fun W => Locator_c t ht W)
    have HG3 := Lib.hid (fun W => End_c t ht W)
    have HU1 := Lib.hid (fun W => Great_c u hu W)
    have HU2 := Lib.hid (fun W => Locator_c u hu W)
    have hp1 := fun W A1 c1 A2 c2 A3 c3 h1 h2 h3 => ParseT_c A1 56 c1 (tlB1 t) A2 20 c2 (tlB2 t) A3 22 c3 (tlB3 t) W h1 h2 h3 (by omega) (by omega) (by omega)
    rw [prT_same ht] at hp1
    have HP1 := Lib.hid hp1
    have HIF := Lib.hid (tl_iff ht hu)
    have HNQ := Lib.hid (tl_neq t u)
    have HD := Lib.hid (Classical.em (t = u))
    clear hA hB hC hb hp1 ht hu
    generalize prT a b z = P at *
    obtain ⟨⟨dip, stp, hep, cop, szp, op, d6p, dsp, o6p⟩, er⟩ := P
    change Hid (∀ (W : World) (A1 : Option Addr) (c1 : Nat) (A2 : Option Addr) (c2 : Nat) (A3 : Option Addr) (c3 : Nat), RowIn W A1 56 c1 (nsB (tlP1 t)) → RowIn W A2 20 c2 (nsB (tlP2 t)) → RowIn W A3 22 c3 (nsB (tlP3 t)) → _) at HP1
    change Hid (t = u ↔ nsB (tlP1 t) = nsB (tlP1 u) ∧ nsB (tlP2 t) = nsB (tlP2 u)) at HIF
    have HUE : Hid (t = u → nsB (tlP1 u) = nsB (tlP1 t) ∧ nsB (tlP2 u) = nsB (tlP2 t)) := by
      rintro rfl
      exact ⟨rfl, rfl⟩
    generalize nsB (tlP1 t) = X1 at *
    generalize nsB (tlP2 t) = X2 at *
    generalize nsB (tlP3 t) = X3 at *
    generalize nsB (tlP1 u) = Y1 at *
    generalize nsB (tlP2 u) = Y2 at *
    obtain ⟨t', hT⟩ : ∃ t', t' = t := ⟨_, rfl⟩
    obtain ⟨u', hU⟩ : ∃ u', u' = u := ⟨_, rfl⟩
    have HD' : Hid (t' = u' ∨ ¬ t' = u') := by rw [hT, hU]; exact HD.out
    have HTT := Lib.hid hT
    have HUU := Lib.hid hU
    clear hT hU HD
    obtain ⟨di, st, he, co, sz, o, d6, ds, o6⟩ := t
    obtain ⟨diu, stu, heu, cou, szu, ou, d6u, dsu, o6u⟩ := u
    unfold tlV tlC at *
    dsimp only at *
    go_enter Try.func5, Try.ntmps5
    go_wp2_with fail
    rw [← HZ.out]
    refine (alive20_c _).mono ?_
    rintro e W1 ⟨rfl, hb1⟩
    have HS : Hid (w.heap.size < (w.alloc (.cells #[.int .u32 di, .int .u32 st, .int .u64 he, .int .u64 co, .int .u64 sz, .int .u64 o, .int .u32 d6, .int .u32 ds, .int .u64 o6] 25)).heap.size) := by have := HZ.out; unfold Hid; omega
    clear HZ
    have HK3 := Lib.hid (HK1.out.below HK1.out.lt hb1)
    have HK4 := Lib.hid (HK2.out.below HK2.out.lt hb1)
    have HL1 := Lib.hid (HL0.out.trans (hb1.mono HL0.out.size))
    clear hb1 HK1 HK2 HL0
    generalize (w.alloc (.cells #[.int .u32 di, .int .u32 st, .int .u64 he, .int .u64 co, .int .u64 sz, .int .u64 o, .int .u32 d6, .int .u32 ds, .int .u64 o6] 25)).heap.size = g2 at *
    generalize hgg : w.heap.size = g1 at *
    have HGG := Lib.hid hgg
    clear hgg
    obtain ⟨d0, d1, d2, d3, d4, d5, d6', d7, d8⟩ := elv9 HK3.out
    have lg1 := HK3.out.lt
    go_wp2_with fail
    go_region_held3 (fun W' => W'.cell? ⟨g1, 0, none⟩ = some (.int .u32 di) ∧ W'.cell? ⟨g1, 1, none⟩ = some (.int .u32 st) ∧ W'.cell? ⟨g1, 2, none⟩ = some (.int .u64 he) ∧ W'.cell? ⟨g1, 3, none⟩ = some (.int .u64 co) ∧ W'.cell? ⟨g1, 4, none⟩ = some (.int .u64 sz) ∧ W'.cell? ⟨g1, 5, none⟩ = some (.int .u64 o) ∧ W'.cell? ⟨g1, 6, none⟩ = some (.int .u32 d6) ∧ W'.cell? ⟨g1, 7, none⟩ = some (.int .u32 ds) ∧ W'.cell? ⟨g1, 8, none⟩ = some (.int .u64 o6)) (first
        | go_keep
        | (go_split_ands; exact ⟨(hba.cell (p := ⟨g1, 0, none⟩) (by first | exact lg1)).trans (by assumption), (hba.cell (p := ⟨g1, 1, none⟩) (by first | exact lg1)).trans (by assumption), (hba.cell (p := ⟨g1, 2, none⟩) (by first | exact lg1)).trans (by assumption), (hba.cell (p := ⟨g1, 3, none⟩) (by first | exact lg1)).trans (by assumption), (hba.cell (p := ⟨g1, 4, none⟩) (by first | exact lg1)).trans (by assumption), (hba.cell (p := ⟨g1, 5, none⟩) (by first | exact lg1)).trans (by assumption), (hba.cell (p := ⟨g1, 6, none⟩) (by first | exact lg1)).trans (by assumption), (hba.cell (p := ⟨g1, 7, none⟩) (by first | exact lg1)).trans (by assumption), (hba.cell (p := ⟨g1, 8, none⟩) (by first | exact lg1)).trans (by assumption)⟩)
        | (go_split_ands; exact ⟨(hbb.cell (p := ⟨g1, 0, none⟩) (by first | exact lg1 | exact Nat.lt_of_lt_of_le lg1 hba.size)).trans (by assumption), (hbb.cell (p := ⟨g1, 1, none⟩) (by first | exact lg1 | exact Nat.lt_of_lt_of_le lg1 hba.size)).trans (by assumption), (hbb.cell (p := ⟨g1, 2, none⟩) (by first | exact lg1 | exact Nat.lt_of_lt_of_le lg1 hba.size)).trans (by assumption), (hbb.cell (p := ⟨g1, 3, none⟩) (by first | exact lg1 | exact Nat.lt_of_lt_of_le lg1 hba.size)).trans (by assumption), (hbb.cell (p := ⟨g1, 4, none⟩) (by first | exact lg1 | exact Nat.lt_of_lt_of_le lg1 hba.size)).trans (by assumption), (hbb.cell (p := ⟨g1, 5, none⟩) (by first | exact lg1 | exact Nat.lt_of_lt_of_le lg1 hba.size)).trans (by assumption), (hbb.cell (p := ⟨g1, 6, none⟩) (by first | exact lg1 | exact Nat.lt_of_lt_of_le lg1 hba.size)).trans (by assumption), (hbb.cell (p := ⟨g1, 7, none⟩) (by first | exact lg1 | exact Nat.lt_of_lt_of_le lg1 hba.size)).trans (by assumption), (hbb.cell (p := ⟨g1, 8, none⟩) (by first | exact lg1 | exact Nat.lt_of_lt_of_le lg1 hba.size)).trans (by assumption)⟩)
        | (go_split_ands; exact ⟨(hbc.cell (p := ⟨g1, 0, none⟩) (by first | exact lg1 | exact Nat.lt_of_lt_of_le lg1 hba.size | exact Nat.lt_of_lt_of_le (Nat.lt_of_lt_of_le lg1 hba.size) hbb.size)).trans (by assumption), (hbc.cell (p := ⟨g1, 1, none⟩) (by first | exact lg1 | exact Nat.lt_of_lt_of_le lg1 hba.size | exact Nat.lt_of_lt_of_le (Nat.lt_of_lt_of_le lg1 hba.size) hbb.size)).trans (by assumption), (hbc.cell (p := ⟨g1, 2, none⟩) (by first | exact lg1 | exact Nat.lt_of_lt_of_le lg1 hba.size | exact Nat.lt_of_lt_of_le (Nat.lt_of_lt_of_le lg1 hba.size) hbb.size)).trans (by assumption), (hbc.cell (p := ⟨g1, 3, none⟩) (by first | exact lg1 | exact Nat.lt_of_lt_of_le lg1 hba.size | exact Nat.lt_of_lt_of_le (Nat.lt_of_lt_of_le lg1 hba.size) hbb.size)).trans (by assumption), (hbc.cell (p := ⟨g1, 4, none⟩) (by first | exact lg1 | exact Nat.lt_of_lt_of_le lg1 hba.size | exact Nat.lt_of_lt_of_le (Nat.lt_of_lt_of_le lg1 hba.size) hbb.size)).trans (by assumption), (hbc.cell (p := ⟨g1, 5, none⟩) (by first | exact lg1 | exact Nat.lt_of_lt_of_le lg1 hba.size | exact Nat.lt_of_lt_of_le (Nat.lt_of_lt_of_le lg1 hba.size) hbb.size)).trans (by assumption), (hbc.cell (p := ⟨g1, 6, none⟩) (by first | exact lg1 | exact Nat.lt_of_lt_of_le lg1 hba.size | exact Nat.lt_of_lt_of_le (Nat.lt_of_lt_of_le lg1 hba.size) hbb.size)).trans (by assumption), (hbc.cell (p := ⟨g1, 7, none⟩) (by first | exact lg1 | exact Nat.lt_of_lt_of_le lg1 hba.size | exact Nat.lt_of_lt_of_le (Nat.lt_of_lt_of_le lg1 hba.size) hbb.size)).trans (by assumption), (hbc.cell (p := ⟨g1, 8, none⟩) (by first | exact lg1 | exact Nat.lt_of_lt_of_le lg1 hba.size | exact Nat.lt_of_lt_of_le (Nat.lt_of_lt_of_le lg1 hba.size) hbb.size)).trans (by assumption)⟩))
        ((first
          | (go_at_call 10
             refine (HG1.out _).mono ?_
             rintro e wa ⟨A1, c1, rfl, ho1, hba⟩)
          | (go_at_call 12
             refine (HG2.out _).mono ?_
             rintro e wb ⟨A2, c2, rfl, ho2, hbb⟩)
          | (go_at_call 14
             refine (HG3.out _).mono ?_
             rintro e wc ⟨A3, c3, rfl, ho3, hbc⟩)))
    have TK : Hid (Tk20 w wc g1 g2 #[.int .u32 di, .int .u32 st, .int .u64 he, .int .u64 co, .int .u64 sz, .int .u64 o, .int .u32 d6, .int .u32 ds, .int .u64 o6] #[.int .u32 diu, .int .u32 stu, .int .u64 heu, .int .u64 cou, .int .u64 szu, .int .u64 ou, .int .u32 d6u, .int .u32 dsu, .int .u64 o6u] A1 c1 X1 A2 c2 X2 A3 c3 X3) := by
      have b0 : Below W1.heap.size W1 wc := ((below_drewL (Below.refl W1.heap.size W1)).trans (hba.mono (Nat.le_refl _))).trans ((hbb.mono hba.size).trans (hbc.mono (Nat.le_trans hba.size hbb.size)))
      exact ⟨HK3.out.below HK3.out.lt b0, HK4.out.below HK4.out.lt b0, ((own_in ho1).below hbb).below hbc, (own_in ho2).below hbc, own_in ho3, by
        have h0 := HL1.out
        first
          | exact h0.trans (b0.mono h0.size)
          | (rw [HGG.out]; exact h0.trans (b0.mono (by rw [← HGG.out]; exact h0.size)))⟩
    clear ho1 ho2 ho3 hba hbb hbc HK3 HK4 HL1 d0 d1 d2 d3 d4 d5 d6' d7 d8 lg1
    go_wp2_with fail
    refine (HP1.out _ _ _ _ _ _ _ TK.out.r1 TK.out.r2 TK.out.r3).mono ?_
    rintro e W2 ⟨rfl, hb2⟩
    have TK2 := Lib.hid ((TK.out.below hb2).alloc (.cells #[.int .u32 di, .int .u32 st, .int .u64 he, .int .u64 co, .int .u64 sz, .int .u64 o, .int .u32 d6, .int .u32 ds, .int .u64 o6] 25))
    clear TK hb2
    have TK := TK2
    clear TK2
    obtain ⟨d0, d1, d2, d3, d4, d5, d6', d7, d8⟩ := elv9 TK.out.b1
    obtain ⟨f0, f1, f2, f3, f4, f5, f6, f7, f8⟩ := elv9 TK.out.b2
    go_wp2_with fail
    have lg1 := TK.out.b1.lt
    have lg2 := TK.out.b2.lt
    generalize W2.alloc (.cells #[.int .u32 di, .int .u32 st, .int .u64 he, .int .u64 co, .int .u64 sz, .int .u64 o, .int .u32 d6, .int .u32 ds, .int .u64 o6] 25) = W3 at *
    rcases HD'.out with hd | hd
    · obtain ⟨e1, e2⟩ := HUE.out (by rw [← HTT.out, ← HUU.out]; exact hd)
      have e3 : (⟨di, st, he, co, sz, o, d6, ds, o6⟩ : Tl) = ⟨diu, stu, heu, cou, szu, ou, d6u, dsu, o6u⟩ := by rw [← HTT.out, ← HUU.out]; exact hd
      injection e3 with n1 n2 n3 n4 n5 n6 n7 n8 n9
      clear HNQ HIF HUE HTT HUU HD' hd
      subst e1 e2 n1 n2 n3 n4 n5 n6 n7 n8 n9
      go_region_held3 (fun W' => W'.cell? ⟨g1, 0, none⟩ = some (.int .u32 di) ∧ W'.cell? ⟨g1, 1, none⟩ = some (.int .u32 st) ∧ W'.cell? ⟨g1, 2, none⟩ = some (.int .u64 he) ∧ W'.cell? ⟨g1, 3, none⟩ = some (.int .u64 co) ∧ W'.cell? ⟨g1, 4, none⟩ = some (.int .u64 sz) ∧ W'.cell? ⟨g1, 5, none⟩ = some (.int .u64 o) ∧ W'.cell? ⟨g1, 6, none⟩ = some (.int .u32 d6) ∧ W'.cell? ⟨g1, 7, none⟩ = some (.int .u32 ds) ∧ W'.cell? ⟨g1, 8, none⟩ = some (.int .u64 o6) ∧ W'.cell? ⟨g2, 0, none⟩ = some (.int .u32 di) ∧ W'.cell? ⟨g2, 1, none⟩ = some (.int .u32 st) ∧ W'.cell? ⟨g2, 2, none⟩ = some (.int .u64 he) ∧ W'.cell? ⟨g2, 3, none⟩ = some (.int .u64 co) ∧ W'.cell? ⟨g2, 4, none⟩ = some (.int .u64 sz) ∧ W'.cell? ⟨g2, 5, none⟩ = some (.int .u64 o) ∧ W'.cell? ⟨g2, 6, none⟩ = some (.int .u32 d6) ∧ W'.cell? ⟨g2, 7, none⟩ = some (.int .u32 ds) ∧ W'.cell? ⟨g2, 8, none⟩ = some (.int .u64 o6)) (first
        | go_keep
        | (go_split_ands; exact ⟨(hx1.cell (p := ⟨g1, 0, none⟩) (by first | exact lg1)).trans (by assumption), (hx1.cell (p := ⟨g1, 1, none⟩) (by first | exact lg1)).trans (by assumption), (hx1.cell (p := ⟨g1, 2, none⟩) (by first | exact lg1)).trans (by assumption), (hx1.cell (p := ⟨g1, 3, none⟩) (by first | exact lg1)).trans (by assumption), (hx1.cell (p := ⟨g1, 4, none⟩) (by first | exact lg1)).trans (by assumption), (hx1.cell (p := ⟨g1, 5, none⟩) (by first | exact lg1)).trans (by assumption), (hx1.cell (p := ⟨g1, 6, none⟩) (by first | exact lg1)).trans (by assumption), (hx1.cell (p := ⟨g1, 7, none⟩) (by first | exact lg1)).trans (by assumption), (hx1.cell (p := ⟨g1, 8, none⟩) (by first | exact lg1)).trans (by assumption), (hx1.cell (p := ⟨g2, 0, none⟩) (by first | exact lg2)).trans (by assumption), (hx1.cell (p := ⟨g2, 1, none⟩) (by first | exact lg2)).trans (by assumption), (hx1.cell (p := ⟨g2, 2, none⟩) (by first | exact lg2)).trans (by assumption), (hx1.cell (p := ⟨g2, 3, none⟩) (by first | exact lg2)).trans (by assumption), (hx1.cell (p := ⟨g2, 4, none⟩) (by first | exact lg2)).trans (by assumption), (hx1.cell (p := ⟨g2, 5, none⟩) (by first | exact lg2)).trans (by assumption), (hx1.cell (p := ⟨g2, 6, none⟩) (by first | exact lg2)).trans (by assumption), (hx1.cell (p := ⟨g2, 7, none⟩) (by first | exact lg2)).trans (by assumption), (hx1.cell (p := ⟨g2, 8, none⟩) (by first | exact lg2)).trans (by assumption)⟩)
        | (go_split_ands; exact ⟨(hx2.cell (p := ⟨g1, 0, none⟩) (by first | exact lg1 | exact Nat.lt_of_lt_of_le lg1 hx1.size)).trans (by assumption), (hx2.cell (p := ⟨g1, 1, none⟩) (by first | exact lg1 | exact Nat.lt_of_lt_of_le lg1 hx1.size)).trans (by assumption), (hx2.cell (p := ⟨g1, 2, none⟩) (by first | exact lg1 | exact Nat.lt_of_lt_of_le lg1 hx1.size)).trans (by assumption), (hx2.cell (p := ⟨g1, 3, none⟩) (by first | exact lg1 | exact Nat.lt_of_lt_of_le lg1 hx1.size)).trans (by assumption), (hx2.cell (p := ⟨g1, 4, none⟩) (by first | exact lg1 | exact Nat.lt_of_lt_of_le lg1 hx1.size)).trans (by assumption), (hx2.cell (p := ⟨g1, 5, none⟩) (by first | exact lg1 | exact Nat.lt_of_lt_of_le lg1 hx1.size)).trans (by assumption), (hx2.cell (p := ⟨g1, 6, none⟩) (by first | exact lg1 | exact Nat.lt_of_lt_of_le lg1 hx1.size)).trans (by assumption), (hx2.cell (p := ⟨g1, 7, none⟩) (by first | exact lg1 | exact Nat.lt_of_lt_of_le lg1 hx1.size)).trans (by assumption), (hx2.cell (p := ⟨g1, 8, none⟩) (by first | exact lg1 | exact Nat.lt_of_lt_of_le lg1 hx1.size)).trans (by assumption), (hx2.cell (p := ⟨g2, 0, none⟩) (by first | exact lg2 | exact Nat.lt_of_lt_of_le lg2 hx1.size)).trans (by assumption), (hx2.cell (p := ⟨g2, 1, none⟩) (by first | exact lg2 | exact Nat.lt_of_lt_of_le lg2 hx1.size)).trans (by assumption), (hx2.cell (p := ⟨g2, 2, none⟩) (by first | exact lg2 | exact Nat.lt_of_lt_of_le lg2 hx1.size)).trans (by assumption), (hx2.cell (p := ⟨g2, 3, none⟩) (by first | exact lg2 | exact Nat.lt_of_lt_of_le lg2 hx1.size)).trans (by assumption), (hx2.cell (p := ⟨g2, 4, none⟩) (by first | exact lg2 | exact Nat.lt_of_lt_of_le lg2 hx1.size)).trans (by assumption), (hx2.cell (p := ⟨g2, 5, none⟩) (by first | exact lg2 | exact Nat.lt_of_lt_of_le lg2 hx1.size)).trans (by assumption), (hx2.cell (p := ⟨g2, 6, none⟩) (by first | exact lg2 | exact Nat.lt_of_lt_of_le lg2 hx1.size)).trans (by assumption), (hx2.cell (p := ⟨g2, 7, none⟩) (by first | exact lg2 | exact Nat.lt_of_lt_of_le lg2 hx1.size)).trans (by assumption), (hx2.cell (p := ⟨g2, 8, none⟩) (by first | exact lg2 | exact Nat.lt_of_lt_of_le lg2 hx1.size)).trans (by assumption)⟩))
        ((first
          | (go_at_call 10
             with_reducible refine (HU1.out _).mono ?_
             rintro e wx ⟨Ax, cx, rfl, hox, hx1⟩)
          | (go_at_call 9
             have ha9 := TK.out.r1.row.belowD hx1
             have hb9 := Row.of_own hox
             with_reducible refine (SameT_c _ _ _ _ _ _ _ _ ha9 hb9).mono ?_
             clear ha9 hb9
             rintro e _ ⟨rfl, q1, rfl⟩)
          | (go_at_call 12
             with_reducible refine (HU2.out _).mono ?_
             rintro e wy ⟨Ay, cy, rfl, hoy, hx2⟩)
          | (go_at_call 9
             have ha9 := (TK.out.r2.row.belowD hx1).belowN hx2
             have hb9 := Row.of_own hoy
             with_reducible refine (SameT_c _ _ _ _ _ _ _ _ ha9 hb9).mono ?_
             clear ha9 hb9
             rintro e _ ⟨rfl, q2, rfl⟩)))
      have B9 : Hid (Below w.heap.size w (wy.drewN q2)) := by
        have b1 := below_drewN (Below.then_ (below_drewL TK.out.bel) hx1) q1
        exact below_drewN (Below.then_ b1 hx2) q2
      generalize (wy.drewN q2) = W9 at *
      go_wp2_with fail
      refine (HPZ.out _ (HA.out.below B9.out) (HB.out.below B9.out) (HC.out.below B9.out)).mono ?_
      rintro e W10 ⟨rfl, hb10⟩
      have hba := (Below.refl W10.heap.size W10).alloc (Nat.le_refl _) (.cells #[.int .u32 dip, .int .u32 stp, .int .u64 hep, .int .u64 cop, .int .u64 szp, .int .u64 op, .int .u32 d6p, .int .u32 dsp, .int .u64 o6p] 25)
      have B10 := Lib.hid ((B9.out.trans (hb10.mono B9.out.size)).trans (hba.mono (B9.out.trans (hb10.mono B9.out.size)).size))
      have K10 := Lib.hid (Blk.new W10 25 #[.int .u32 dip, .int .u32 stp, .int .u64 hep, .int .u64 cop, .int .u64 szp, .int .u64 op, .int .u32 d6p, .int .u32 dsp, .int .u64 o6p])
      clear hb10 hba B9
      rcases HPB.out with hpb | hpb
      · obtain ⟨p0, pW, p1, p2, p3⟩ := hpb
        subst p0
        have P1 := Lib.hid p1
        have P2 := Lib.hid p2
        have P3 := Lib.hid p3
        have HX1 := Lib.hid (fun W => Great_c (⟨dip, stp, hep, cop, szp, op, d6p, dsp, o6p⟩ : Tl) pW W)
        have HX2 := Lib.hid (fun W => Locator_c (⟨dip, stp, hep, cop, szp, op, d6p, dsp, o6p⟩ : Tl) pW W)
        have HX3 := Lib.hid (fun W => End_c (⟨dip, stp, hep, cop, szp, op, d6p, dsp, o6p⟩ : Tl) pW W)
        rw [show nsB (tlP1 (⟨dip, stp, hep, cop, szp, op, d6p, dsp, o6p⟩ : Tl)) = a from P1.out] at HX1
        rw [show nsB (tlP2 (⟨dip, stp, hep, cop, szp, op, d6p, dsp, o6p⟩ : Tl)) = b from P2.out] at HX2
        rw [show nsB (tlP3 (⟨dip, stp, hep, cop, szp, op, d6p, dsp, o6p⟩ : Tl)) = z from P3.out] at HX3
        unfold tlV tlC at HX1 HX2 HX3
        dsimp only at HX1 HX2 HX3
        clear p1 p2 p3 P1 P2 P3 pW
        go_wp2_with fail
        generalize W10.alloc (.cells #[.int .u32 dip, .int .u32 stp, .int .u64 hep, .int .u64 cop, .int .u64 szp, .int .u64 op, .int .u32 d6p, .int .u32 dsp, .int .u64 o6p] 25) = W11 at *
        generalize W10.heap.size = g11 at *
        refine (HX1.out _).mono ?_
        rintro e W12 ⟨A12, c12, rfl, ho12, hb12⟩
        have B12 := Lib.hid (B10.out.trans (hb12.mono B10.out.size))
        have K12 := Lib.hid (K10.out.below K10.out.lt hb12)
        clear hb12 B10 K10
        go_wp2_with fail
        refine (SameT_c _ _ _ _ _ _ _ _ (Row.of_own ho12) (HA.out.row.below B12.out)).mono ?_
        rintro e _ ⟨rfl, q12, rfl⟩
        have B13 := Lib.hid (below_drewN B12.out q12)
        have K13 : Hid (Blk (W12.drewN q12) g11 25 #[.int .u32 dip, .int .u32 stp, .int .u64 hep, .int .u64 cop, .int .u64 szp, .int .u64 op, .int .u32 d6p, .int .u32 dsp, .int .u64 o6p]) := K12.out
        clear ho12 B12 K12
        generalize W12.drewN q12 = W13 at *
        obtain ⟨y0, y1, y2, y3, y4, y5, y6, y7, y8⟩ := elv9 K13.out
        go_wp2_with fail
        refine (HX2.out _).mono ?_
        rintro e W14 ⟨A14, c14, rfl, ho14, hb14⟩
        have B14 := Lib.hid (B13.out.trans (hb14.mono B13.out.size))
        have K14 := Lib.hid (K13.out.below K13.out.lt hb14)
        clear hb14 B13 K13 y0 y1 y2 y3 y4 y5 y6 y7 y8
        go_wp2_with fail
        refine (SameT_c _ _ _ _ _ _ _ _ (Row.of_own ho14) (HB.out.row.below B14.out)).mono ?_
        rintro e _ ⟨rfl, q14, rfl⟩
        have B15 := Lib.hid (below_drewN B14.out q14)
        have K15 : Hid (Blk (W14.drewN q14) g11 25 #[.int .u32 dip, .int .u32 stp, .int .u64 hep, .int .u64 cop, .int .u64 szp, .int .u64 op, .int .u32 d6p, .int .u32 dsp, .int .u64 o6p]) := K14.out
        clear ho14 B14 K14
        generalize W14.drewN q14 = W15 at *
        obtain ⟨y0, y1, y2, y3, y4, y5, y6, y7, y8⟩ := elv9 K15.out
        go_wp2_with fail
        refine (HX3.out _).mono ?_
        rintro e W16 ⟨A16, c16, rfl, ho16, hb16⟩
        have B16 := Lib.hid (B15.out.trans (hb16.mono B15.out.size))
        clear hb16 B15 K15 y0 y1 y2 y3 y4 y5 y6 y7 y8
        go_wp2_with fail
        refine (SameT_c _ _ _ _ _ _ _ _ (Row.of_own ho16) (HC.out.row.below B16.out)).mono ?_
        rintro e _ ⟨rfl, q16, rfl⟩
        go_wp2
        go_ret
        exact ⟨rfl, below_drewN B16.out _⟩
      · obtain ⟨p0, p1⟩ := hpb
        have b0 : (er != 0) = true := by rw [bne_iff_ne]; exact p0
        obtain ⟨rfl, rfl, rfl, rfl, rfl, rfl, rfl, rfl, rfl⟩ := tl_zero p1
        go_wp2
        go_ret
        exact ⟨rfl, B10.out⟩
    · have hne : (⟨di, st, he, co, sz, o, d6, ds, o6⟩ : Tl) ≠ ⟨diu, stu, heu, cou, szu, ou, d6u, dsu, o6u⟩ := by rw [← HTT.out, ← HUU.out]; exact hd
      have hnq := HNQ.out hne
      clear HNQ HUE HTT HUU HD' hd
      by_cases hx : X1 = Y1
      · have hn2 : X2 ≠ Y2 := fun e => hne (HIF.out.2 ⟨hx, e⟩)
        have HN2 := Lib.hid hn2
        clear hn2 HIF hne
        subst hx
        go_region_held3 (fun W' => W'.cell? ⟨g1, 0, none⟩ = some (.int .u32 di) ∧ W'.cell? ⟨g1, 1, none⟩ = some (.int .u32 st) ∧ W'.cell? ⟨g1, 2, none⟩ = some (.int .u64 he) ∧ W'.cell? ⟨g1, 3, none⟩ = some (.int .u64 co) ∧ W'.cell? ⟨g1, 4, none⟩ = some (.int .u64 sz) ∧ W'.cell? ⟨g1, 5, none⟩ = some (.int .u64 o) ∧ W'.cell? ⟨g1, 6, none⟩ = some (.int .u32 d6) ∧ W'.cell? ⟨g1, 7, none⟩ = some (.int .u32 ds) ∧ W'.cell? ⟨g1, 8, none⟩ = some (.int .u64 o6) ∧ W'.cell? ⟨g2, 0, none⟩ = some (.int .u32 diu) ∧ W'.cell? ⟨g2, 1, none⟩ = some (.int .u32 stu) ∧ W'.cell? ⟨g2, 2, none⟩ = some (.int .u64 heu) ∧ W'.cell? ⟨g2, 3, none⟩ = some (.int .u64 cou) ∧ W'.cell? ⟨g2, 4, none⟩ = some (.int .u64 szu) ∧ W'.cell? ⟨g2, 5, none⟩ = some (.int .u64 ou) ∧ W'.cell? ⟨g2, 6, none⟩ = some (.int .u32 d6u) ∧ W'.cell? ⟨g2, 7, none⟩ = some (.int .u32 dsu) ∧ W'.cell? ⟨g2, 8, none⟩ = some (.int .u64 o6u)) (first
          | go_keep
          | (go_split_ands; exact ⟨(hx1.cell (p := ⟨g1, 0, none⟩) (by first | exact lg1)).trans (by assumption), (hx1.cell (p := ⟨g1, 1, none⟩) (by first | exact lg1)).trans (by assumption), (hx1.cell (p := ⟨g1, 2, none⟩) (by first | exact lg1)).trans (by assumption), (hx1.cell (p := ⟨g1, 3, none⟩) (by first | exact lg1)).trans (by assumption), (hx1.cell (p := ⟨g1, 4, none⟩) (by first | exact lg1)).trans (by assumption), (hx1.cell (p := ⟨g1, 5, none⟩) (by first | exact lg1)).trans (by assumption), (hx1.cell (p := ⟨g1, 6, none⟩) (by first | exact lg1)).trans (by assumption), (hx1.cell (p := ⟨g1, 7, none⟩) (by first | exact lg1)).trans (by assumption), (hx1.cell (p := ⟨g1, 8, none⟩) (by first | exact lg1)).trans (by assumption), (hx1.cell (p := ⟨g2, 0, none⟩) (by first | exact lg2)).trans (by assumption), (hx1.cell (p := ⟨g2, 1, none⟩) (by first | exact lg2)).trans (by assumption), (hx1.cell (p := ⟨g2, 2, none⟩) (by first | exact lg2)).trans (by assumption), (hx1.cell (p := ⟨g2, 3, none⟩) (by first | exact lg2)).trans (by assumption), (hx1.cell (p := ⟨g2, 4, none⟩) (by first | exact lg2)).trans (by assumption), (hx1.cell (p := ⟨g2, 5, none⟩) (by first | exact lg2)).trans (by assumption), (hx1.cell (p := ⟨g2, 6, none⟩) (by first | exact lg2)).trans (by assumption), (hx1.cell (p := ⟨g2, 7, none⟩) (by first | exact lg2)).trans (by assumption), (hx1.cell (p := ⟨g2, 8, none⟩) (by first | exact lg2)).trans (by assumption)⟩)
          | (go_split_ands; exact ⟨(hx2.cell (p := ⟨g1, 0, none⟩) (by first | exact lg1 | exact Nat.lt_of_lt_of_le lg1 hx1.size)).trans (by assumption), (hx2.cell (p := ⟨g1, 1, none⟩) (by first | exact lg1 | exact Nat.lt_of_lt_of_le lg1 hx1.size)).trans (by assumption), (hx2.cell (p := ⟨g1, 2, none⟩) (by first | exact lg1 | exact Nat.lt_of_lt_of_le lg1 hx1.size)).trans (by assumption), (hx2.cell (p := ⟨g1, 3, none⟩) (by first | exact lg1 | exact Nat.lt_of_lt_of_le lg1 hx1.size)).trans (by assumption), (hx2.cell (p := ⟨g1, 4, none⟩) (by first | exact lg1 | exact Nat.lt_of_lt_of_le lg1 hx1.size)).trans (by assumption), (hx2.cell (p := ⟨g1, 5, none⟩) (by first | exact lg1 | exact Nat.lt_of_lt_of_le lg1 hx1.size)).trans (by assumption), (hx2.cell (p := ⟨g1, 6, none⟩) (by first | exact lg1 | exact Nat.lt_of_lt_of_le lg1 hx1.size)).trans (by assumption), (hx2.cell (p := ⟨g1, 7, none⟩) (by first | exact lg1 | exact Nat.lt_of_lt_of_le lg1 hx1.size)).trans (by assumption), (hx2.cell (p := ⟨g1, 8, none⟩) (by first | exact lg1 | exact Nat.lt_of_lt_of_le lg1 hx1.size)).trans (by assumption), (hx2.cell (p := ⟨g2, 0, none⟩) (by first | exact lg2 | exact Nat.lt_of_lt_of_le lg2 hx1.size)).trans (by assumption), (hx2.cell (p := ⟨g2, 1, none⟩) (by first | exact lg2 | exact Nat.lt_of_lt_of_le lg2 hx1.size)).trans (by assumption), (hx2.cell (p := ⟨g2, 2, none⟩) (by first | exact lg2 | exact Nat.lt_of_lt_of_le lg2 hx1.size)).trans (by assumption), (hx2.cell (p := ⟨g2, 3, none⟩) (by first | exact lg2 | exact Nat.lt_of_lt_of_le lg2 hx1.size)).trans (by assumption), (hx2.cell (p := ⟨g2, 4, none⟩) (by first | exact lg2 | exact Nat.lt_of_lt_of_le lg2 hx1.size)).trans (by assumption), (hx2.cell (p := ⟨g2, 5, none⟩) (by first | exact lg2 | exact Nat.lt_of_lt_of_le lg2 hx1.size)).trans (by assumption), (hx2.cell (p := ⟨g2, 6, none⟩) (by first | exact lg2 | exact Nat.lt_of_lt_of_le lg2 hx1.size)).trans (by assumption), (hx2.cell (p := ⟨g2, 7, none⟩) (by first | exact lg2 | exact Nat.lt_of_lt_of_le lg2 hx1.size)).trans (by assumption), (hx2.cell (p := ⟨g2, 8, none⟩) (by first | exact lg2 | exact Nat.lt_of_lt_of_le lg2 hx1.size)).trans (by assumption)⟩))
          ((first
            | (go_at_call 10
               with_reducible refine (HU1.out _).mono ?_
               rintro e wx ⟨Ax, cx, rfl, hox, hx1⟩)
            | (go_at_call 9
               have ha9 := TK.out.r1.row.belowD hx1
               have hb9 := Row.of_own hox
               with_reducible refine (SameT_c _ _ _ _ _ _ _ _ ha9 hb9).mono ?_
               clear ha9 hb9
               rintro e _ ⟨rfl, q1, rfl⟩)
            | (go_at_call 12
               with_reducible refine (HU2.out _).mono ?_
               rintro e wy ⟨Ay, cy, rfl, hoy, hx2⟩)
            | (go_at_call 9
               have ha9 := (TK.out.r2.row.belowD hx1).belowN hx2
               have hb9 := Row.of_own hoy
               with_reducible refine (SameN_c _ _ _ _ _ _ _ _ _ ha9 hb9 HN2.out).mono ?_
               clear ha9 hb9
               rintro e _ ⟨rfl, q2, rfl⟩)))
        have B9 : Hid (Below w.heap.size w (wy.drewN q2)) := by
          have b1 := below_drewN (Below.then_ (below_drewL TK.out.bel) hx1) q1
          exact below_drewN (Below.then_ b1 hx2) q2
        generalize (wy.drewN q2) = W9 at *
        go_wp2_with fail
        refine (HPZ.out _ (HA.out.below B9.out) (HB.out.below B9.out) (HC.out.below B9.out)).mono ?_
        rintro e W10 ⟨rfl, hb10⟩
        have hba := (Below.refl W10.heap.size W10).alloc (Nat.le_refl _) (.cells #[.int .u32 dip, .int .u32 stp, .int .u64 hep, .int .u64 cop, .int .u64 szp, .int .u64 op, .int .u32 d6p, .int .u32 dsp, .int .u64 o6p] 25)
        have B10 := Lib.hid ((B9.out.trans (hb10.mono B9.out.size)).trans (hba.mono (B9.out.trans (hb10.mono B9.out.size)).size))
        have K10 := Lib.hid (Blk.new W10 25 #[.int .u32 dip, .int .u32 stp, .int .u64 hep, .int .u64 cop, .int .u64 szp, .int .u64 op, .int .u32 d6p, .int .u32 dsp, .int .u64 o6p])
        clear hb10 hba B9
        rcases HPB.out with hpb | hpb
        · obtain ⟨p0, pW, p1, p2, p3⟩ := hpb
          subst p0
          have P1 := Lib.hid p1
          have P2 := Lib.hid p2
          have P3 := Lib.hid p3
          have HX1 := Lib.hid (fun W => Great_c (⟨dip, stp, hep, cop, szp, op, d6p, dsp, o6p⟩ : Tl) pW W)
          have HX2 := Lib.hid (fun W => Locator_c (⟨dip, stp, hep, cop, szp, op, d6p, dsp, o6p⟩ : Tl) pW W)
          have HX3 := Lib.hid (fun W => End_c (⟨dip, stp, hep, cop, szp, op, d6p, dsp, o6p⟩ : Tl) pW W)
          rw [show nsB (tlP1 (⟨dip, stp, hep, cop, szp, op, d6p, dsp, o6p⟩ : Tl)) = a from P1.out] at HX1
          rw [show nsB (tlP2 (⟨dip, stp, hep, cop, szp, op, d6p, dsp, o6p⟩ : Tl)) = b from P2.out] at HX2
          rw [show nsB (tlP3 (⟨dip, stp, hep, cop, szp, op, d6p, dsp, o6p⟩ : Tl)) = z from P3.out] at HX3
          unfold tlV tlC at HX1 HX2 HX3
          dsimp only at HX1 HX2 HX3
          clear p1 p2 p3 P1 P2 P3 pW
          go_wp2_with fail
          generalize W10.alloc (.cells #[.int .u32 dip, .int .u32 stp, .int .u64 hep, .int .u64 cop, .int .u64 szp, .int .u64 op, .int .u32 d6p, .int .u32 dsp, .int .u64 o6p] 25) = W11 at *
          generalize W10.heap.size = g11 at *
          refine (HX1.out _).mono ?_
          rintro e W12 ⟨A12, c12, rfl, ho12, hb12⟩
          have B12 := Lib.hid (B10.out.trans (hb12.mono B10.out.size))
          have K12 := Lib.hid (K10.out.below K10.out.lt hb12)
          clear hb12 B10 K10
          go_wp2_with fail
          refine (SameT_c _ _ _ _ _ _ _ _ (Row.of_own ho12) (HA.out.row.below B12.out)).mono ?_
          rintro e _ ⟨rfl, q12, rfl⟩
          have B13 := Lib.hid (below_drewN B12.out q12)
          have K13 : Hid (Blk (W12.drewN q12) g11 25 #[.int .u32 dip, .int .u32 stp, .int .u64 hep, .int .u64 cop, .int .u64 szp, .int .u64 op, .int .u32 d6p, .int .u32 dsp, .int .u64 o6p]) := K12.out
          clear ho12 B12 K12
          generalize W12.drewN q12 = W13 at *
          obtain ⟨y0, y1, y2, y3, y4, y5, y6, y7, y8⟩ := elv9 K13.out
          go_wp2_with fail
          refine (HX2.out _).mono ?_
          rintro e W14 ⟨A14, c14, rfl, ho14, hb14⟩
          have B14 := Lib.hid (B13.out.trans (hb14.mono B13.out.size))
          have K14 := Lib.hid (K13.out.below K13.out.lt hb14)
          clear hb14 B13 K13 y0 y1 y2 y3 y4 y5 y6 y7 y8
          go_wp2_with fail
          refine (SameT_c _ _ _ _ _ _ _ _ (Row.of_own ho14) (HB.out.row.below B14.out)).mono ?_
          rintro e _ ⟨rfl, q14, rfl⟩
          have B15 := Lib.hid (below_drewN B14.out q14)
          have K15 : Hid (Blk (W14.drewN q14) g11 25 #[.int .u32 dip, .int .u32 stp, .int .u64 hep, .int .u64 cop, .int .u64 szp, .int .u64 op, .int .u32 d6p, .int .u32 dsp, .int .u64 o6p]) := K14.out
          clear ho14 B14 K14
          generalize W14.drewN q14 = W15 at *
          obtain ⟨y0, y1, y2, y3, y4, y5, y6, y7, y8⟩ := elv9 K15.out
          go_wp2_with fail
          refine (HX3.out _).mono ?_
          rintro e W16 ⟨A16, c16, rfl, ho16, hb16⟩
          have B16 := Lib.hid (B15.out.trans (hb16.mono B15.out.size))
          clear hb16 B15 K15 y0 y1 y2 y3 y4 y5 y6 y7 y8
          go_wp2_with fail
          refine (SameT_c _ _ _ _ _ _ _ _ (Row.of_own ho16) (HC.out.row.below B16.out)).mono ?_
          rintro e _ ⟨rfl, q16, rfl⟩
          go_wp2
          go_ret
          exact ⟨rfl, below_drewN B16.out _⟩
        · obtain ⟨p0, p1⟩ := hpb
          have b0 : (er != 0) = true := by rw [bne_iff_ne]; exact p0
          obtain ⟨rfl, rfl, rfl, rfl, rfl, rfl, rfl, rfl, rfl⟩ := tl_zero p1
          go_wp2
          go_ret
          exact ⟨rfl, B10.out⟩
      · have HN1 : Hid (X1 ≠ Y1) := hx
        clear hx HIF hne
        refine wp_region_held_drew (S := fun W' => W'.cell? ⟨g1, 0, none⟩ = some (.int .u32 di) ∧ W'.cell? ⟨g1, 1, none⟩ = some (.int .u32 st) ∧ W'.cell? ⟨g1, 2, none⟩ = some (.int .u64 he) ∧ W'.cell? ⟨g1, 3, none⟩ = some (.int .u64 co) ∧ W'.cell? ⟨g1, 4, none⟩ = some (.int .u64 sz) ∧ W'.cell? ⟨g1, 5, none⟩ = some (.int .u64 o) ∧ W'.cell? ⟨g1, 6, none⟩ = some (.int .u32 d6) ∧ W'.cell? ⟨g1, 7, none⟩ = some (.int .u32 ds) ∧ W'.cell? ⟨g1, 8, none⟩ = some (.int .u64 o6) ∧ W'.cell? ⟨g2, 0, none⟩ = some (.int .u32 diu) ∧ W'.cell? ⟨g2, 1, none⟩ = some (.int .u32 stu) ∧ W'.cell? ⟨g2, 2, none⟩ = some (.int .u64 heu) ∧ W'.cell? ⟨g2, 3, none⟩ = some (.int .u64 cou) ∧ W'.cell? ⟨g2, 4, none⟩ = some (.int .u64 szu) ∧ W'.cell? ⟨g2, 5, none⟩ = some (.int .u64 ou) ∧ W'.cell? ⟨g2, 6, none⟩ = some (.int .u32 d6u) ∧ W'.cell? ⟨g2, 7, none⟩ = some (.int .u32 dsu) ∧ W'.cell? ⟨g2, 8, none⟩ = some (.int .u64 o6u)) (by kernel_rfl) ?_ (fun hHeld => ?_)
        · go_keep
        refine wpAnyH_take (i := 0) (oi := { dst := some 53, op := _, type := _, pos := _, after := _, guard := _ }) (v := ?_) rfl (by kernel_rfl) (by kernel_rfl) (by kernel_rfl) (fun _ _ _ h => h) (Or.inl ⟨by rfl, ?_⟩) (by assumption) ?_
        rotate_left
        · intro w' hSw
          try dsimp only at hSw
          go_simp
          try with_reducible rfl
        try simp only [Act.put, List.setIfInBounds_toArray, List.set_cons_zero, List.set_cons_succ]
        refine wpAnyH_take (i := 1) (oi := { dst := some 54, op := _, type := _, pos := _, after := _, guard := _ }) (v := ?_) rfl (by kernel_rfl) (by kernel_rfl) (by kernel_rfl) (fun _ _ _ h => h) (Or.inl ⟨by rfl, ?_⟩) (by assumption) ?_
        rotate_left
        · intro w' hSw
          try dsimp only at hSw
          go_simp
          try with_reducible rfl
        try simp only [Act.put, List.setIfInBounds_toArray, List.set_cons_zero, List.set_cons_succ]
        refine wpAnyH_take (i := 2) (oi := { dst := some 55, op := _, type := _, pos := _, after := _, guard := _ }) (v := ?_) rfl (by kernel_rfl) (by kernel_rfl) (by kernel_rfl) (fun _ _ _ h => h) (Or.inl ⟨by rfl, ?_⟩) (by assumption) ?_
        rotate_left
        · intro w' hSw
          try dsimp only at hSw
          go_simp
          try with_reducible rfl
        try simp only [Act.put, List.setIfInBounds_toArray, List.set_cons_zero, List.set_cons_succ]
        refine wpAnyH_take (i := 3) (oi := { dst := some 56, op := _, type := _, pos := _, after := _, guard := _ }) (v := ?_) rfl (by kernel_rfl) (by kernel_rfl) (by kernel_rfl) (fun _ _ _ h => h) (Or.inl ⟨by rfl, ?_⟩) (by assumption) ?_
        rotate_left
        · intro w' hSw
          try dsimp only at hSw
          go_simp
          try with_reducible rfl
        try simp only [Act.put, List.setIfInBounds_toArray, List.set_cons_zero, List.set_cons_succ]
        refine wpAnyH_take (i := 4) (oi := { dst := some 57, op := _, type := _, pos := _, after := _, guard := _ }) (v := ?_) rfl (by kernel_rfl) (by kernel_rfl) (by kernel_rfl) (fun _ _ _ h => h) (Or.inl ⟨by rfl, ?_⟩) (by assumption) ?_
        rotate_left
        · intro w' hSw
          try dsimp only at hSw
          go_simp
          try with_reducible rfl
        try simp only [Act.put, List.setIfInBounds_toArray, List.set_cons_zero, List.set_cons_succ]
        refine wpAnyH_ready (rs := [5]) (by kernel_rfl) (by simp) ?_
        refine AllReadyH.cons (o := { dst := some 58, op := _, type := _, pos := _, after := _, guard := _ }) rfl (fun K hK => ?_) AllReadyH.nil
        go_simp
        go_at_call 10
        with_reducible refine (HU1.out _).mono ?_
        rintro e wx ⟨Ax, cx, rfl, hox, hx1⟩
        try go_wp2_with fail
        refine hK.out _ _ ?_ (fun hHeld => ?_)
        · exact ⟨(hx1.cell (p := ⟨g1, 0, none⟩) (by first | exact lg1)).trans (by assumption), (hx1.cell (p := ⟨g1, 1, none⟩) (by first | exact lg1)).trans (by assumption), (hx1.cell (p := ⟨g1, 2, none⟩) (by first | exact lg1)).trans (by assumption), (hx1.cell (p := ⟨g1, 3, none⟩) (by first | exact lg1)).trans (by assumption), (hx1.cell (p := ⟨g1, 4, none⟩) (by first | exact lg1)).trans (by assumption), (hx1.cell (p := ⟨g1, 5, none⟩) (by first | exact lg1)).trans (by assumption), (hx1.cell (p := ⟨g1, 6, none⟩) (by first | exact lg1)).trans (by assumption), (hx1.cell (p := ⟨g1, 7, none⟩) (by first | exact lg1)).trans (by assumption), (hx1.cell (p := ⟨g1, 8, none⟩) (by first | exact lg1)).trans (by assumption), (hx1.cell (p := ⟨g2, 0, none⟩) (by first | exact lg2)).trans (by assumption), (hx1.cell (p := ⟨g2, 1, none⟩) (by first | exact lg2)).trans (by assumption), (hx1.cell (p := ⟨g2, 2, none⟩) (by first | exact lg2)).trans (by assumption), (hx1.cell (p := ⟨g2, 3, none⟩) (by first | exact lg2)).trans (by assumption), (hx1.cell (p := ⟨g2, 4, none⟩) (by first | exact lg2)).trans (by assumption), (hx1.cell (p := ⟨g2, 5, none⟩) (by first | exact lg2)).trans (by assumption), (hx1.cell (p := ⟨g2, 6, none⟩) (by first | exact lg2)).trans (by assumption), (hx1.cell (p := ⟨g2, 7, none⟩) (by first | exact lg2)).trans (by assumption), (hx1.cell (p := ⟨g2, 8, none⟩) (by first | exact lg2)).trans (by assumption)⟩
        clear hK K
        try simp only [Act.put, List.setIfInBounds_toArray, List.set_cons_zero, List.set_cons_succ]
        refine wpAnyH_ready (rs := [6]) (by kernel_rfl) (by simp) ?_
        refine AllReadyH.cons (o := { dst := some 59, op := _, type := _, pos := _, after := _, guard := _ }) rfl (fun K hK => ?_) AllReadyH.nil
        go_simp
        go_at_call 9
        have ha9 := TK.out.r1.row.belowD hx1
        have hb9 := Row.of_own hox
        have hn9 := HN1.out
        with_reducible refine (SameN_c _ _ _ _ _ _ _ _ _ ha9 hb9 hn9).mono ?_
        clear ha9 hb9 hn9
        rintro e _ ⟨rfl, q1, rfl⟩
        try go_wp2_with fail
        refine hK.out _ _ ?_ (fun hHeld => ?_)
        · go_keep
        clear hK K
        try simp only [Act.put, List.setIfInBounds_toArray, List.set_cons_zero, List.set_cons_succ]
        refine wpAnyH_take (i := 7) (oi := { dst := some 60, op := _, type := _, pos := _, after := _, guard := _ }) (v := ?_) rfl (by kernel_rfl) (by kernel_rfl) (by kernel_rfl) (fun _ _ _ h => h) (Or.inl ⟨by rfl, ?_⟩) (by assumption) ?_
        rotate_left
        · intro w' hSw
          try dsimp only at hSw
          go_simp
          try with_reducible rfl
        try simp only [Act.put, List.setIfInBounds_toArray, List.set_cons_zero, List.set_cons_succ]
        refine wpAnyH_take (i := 8) (oi := { dst := some 61, op := _, type := _, pos := _, after := _, guard := _ }) (v := undef) rfl (by kernel_rfl) (by kernel_rfl) (by kernel_rfl) (fun _ _ _ h => h) (Or.inr ⟨by rfl, rfl⟩) (by assumption) ?_
        try simp only [Act.put, List.setIfInBounds_toArray, List.set_cons_zero, List.set_cons_succ]
        refine wpAnyH_take (i := 9) (oi := { dst := some 62, op := _, type := _, pos := _, after := _, guard := _ }) (v := undef) rfl (by kernel_rfl) (by kernel_rfl) (by kernel_rfl) (fun _ _ _ h => h) (Or.inr ⟨by rfl, rfl⟩) (by assumption) ?_
        try simp only [Act.put, List.setIfInBounds_toArray, List.set_cons_zero, List.set_cons_succ]
        refine wpAnyH_take (i := 10) (oi := { dst := some 63, op := _, type := _, pos := _, after := _, guard := _ }) (v := undef) rfl (by kernel_rfl) (by kernel_rfl) (by kernel_rfl) (fun _ _ _ h => h) (Or.inr ⟨by rfl, rfl⟩) (by assumption) ?_
        try simp only [Act.put, List.setIfInBounds_toArray, List.set_cons_zero, List.set_cons_succ]
        refine wpAnyH_take (i := 11) (oi := { dst := some 64, op := _, type := _, pos := _, after := _, guard := _ }) (v := undef) rfl (by kernel_rfl) (by kernel_rfl) (by kernel_rfl) (fun _ _ _ h => h) (Or.inr ⟨by rfl, rfl⟩) (by assumption) ?_
        try simp only [Act.put, List.setIfInBounds_toArray, List.set_cons_zero, List.set_cons_succ]
        refine wpAnyH_take (i := 12) (oi := { dst := some 65, op := _, type := _, pos := _, after := _, guard := _ }) (v := ?_) rfl (by kernel_rfl) (by kernel_rfl) (by kernel_rfl) (fun _ _ _ h => h) (Or.inl ⟨by rfl, ?_⟩) (by assumption) ?_
        rotate_left
        · intro w' hSw
          try dsimp only at hSw
          go_simp
          try with_reducible rfl
        try simp only [Act.put, List.setIfInBounds_toArray, List.set_cons_zero, List.set_cons_succ]
        refine wpAnyH_take (i := 13) (oi := { dst := some 66, op := _, type := _, pos := _, after := _, guard := _ }) (v := ?_) rfl (by kernel_rfl) (by kernel_rfl) (by kernel_rfl) (fun _ _ _ h => h) (Or.inl ⟨by rfl, ?_⟩) (by assumption) ?_
        rotate_left
        · intro w' hSw
          try dsimp only at hSw
          go_simp
          try with_reducible rfl
        try simp only [Act.put, List.setIfInBounds_toArray, List.set_cons_zero, List.set_cons_succ]
        refine wpAnyH_done (by kernel_rfl) ?_ _
        have B9 : Hid (Below w.heap.size w (wx.drewN q1)) := below_drewN (Below.then_ (below_drewL TK.out.bel) hx1) q1
        generalize (wx.drewN q1) = W9 at *
        go_wp2_with fail
        refine (HPZ.out _ (HA.out.below B9.out) (HB.out.below B9.out) (HC.out.below B9.out)).mono ?_
        rintro e W10 ⟨rfl, hb10⟩
        have hba := (Below.refl W10.heap.size W10).alloc (Nat.le_refl _) (.cells #[.int .u32 dip, .int .u32 stp, .int .u64 hep, .int .u64 cop, .int .u64 szp, .int .u64 op, .int .u32 d6p, .int .u32 dsp, .int .u64 o6p] 25)
        have B10 := Lib.hid ((B9.out.trans (hb10.mono B9.out.size)).trans (hba.mono (B9.out.trans (hb10.mono B9.out.size)).size))
        have K10 := Lib.hid (Blk.new W10 25 #[.int .u32 dip, .int .u32 stp, .int .u64 hep, .int .u64 cop, .int .u64 szp, .int .u64 op, .int .u32 d6p, .int .u32 dsp, .int .u64 o6p])
        clear hb10 hba B9
        rcases HPB.out with hpb | hpb
        · obtain ⟨p0, pW, p1, p2, p3⟩ := hpb
          subst p0
          have P1 := Lib.hid p1
          have P2 := Lib.hid p2
          have P3 := Lib.hid p3
          have HX1 := Lib.hid (fun W => Great_c (⟨dip, stp, hep, cop, szp, op, d6p, dsp, o6p⟩ : Tl) pW W)
          have HX2 := Lib.hid (fun W => Locator_c (⟨dip, stp, hep, cop, szp, op, d6p, dsp, o6p⟩ : Tl) pW W)
          have HX3 := Lib.hid (fun W => End_c (⟨dip, stp, hep, cop, szp, op, d6p, dsp, o6p⟩ : Tl) pW W)
          rw [show nsB (tlP1 (⟨dip, stp, hep, cop, szp, op, d6p, dsp, o6p⟩ : Tl)) = a from P1.out] at HX1
          rw [show nsB (tlP2 (⟨dip, stp, hep, cop, szp, op, d6p, dsp, o6p⟩ : Tl)) = b from P2.out] at HX2
          rw [show nsB (tlP3 (⟨dip, stp, hep, cop, szp, op, d6p, dsp, o6p⟩ : Tl)) = z from P3.out] at HX3
          unfold tlV tlC at HX1 HX2 HX3
          dsimp only at HX1 HX2 HX3
          clear p1 p2 p3 P1 P2 P3 pW
          go_wp2_with fail
          generalize W10.alloc (.cells #[.int .u32 dip, .int .u32 stp, .int .u64 hep, .int .u64 cop, .int .u64 szp, .int .u64 op, .int .u32 d6p, .int .u32 dsp, .int .u64 o6p] 25) = W11 at *
          generalize W10.heap.size = g11 at *
          refine (HX1.out _).mono ?_
          rintro e W12 ⟨A12, c12, rfl, ho12, hb12⟩
          have B12 := Lib.hid (B10.out.trans (hb12.mono B10.out.size))
          have K12 := Lib.hid (K10.out.below K10.out.lt hb12)
          clear hb12 B10 K10
          go_wp2_with fail
          refine (SameT_c _ _ _ _ _ _ _ _ (Row.of_own ho12) (HA.out.row.below B12.out)).mono ?_
          rintro e _ ⟨rfl, q12, rfl⟩
          have B13 := Lib.hid (below_drewN B12.out q12)
          have K13 : Hid (Blk (W12.drewN q12) g11 25 #[.int .u32 dip, .int .u32 stp, .int .u64 hep, .int .u64 cop, .int .u64 szp, .int .u64 op, .int .u32 d6p, .int .u32 dsp, .int .u64 o6p]) := K12.out
          clear ho12 B12 K12
          generalize W12.drewN q12 = W13 at *
          obtain ⟨y0, y1, y2, y3, y4, y5, y6, y7, y8⟩ := elv9 K13.out
          go_wp2_with fail
          refine (HX2.out _).mono ?_
          rintro e W14 ⟨A14, c14, rfl, ho14, hb14⟩
          have B14 := Lib.hid (B13.out.trans (hb14.mono B13.out.size))
          have K14 := Lib.hid (K13.out.below K13.out.lt hb14)
          clear hb14 B13 K13 y0 y1 y2 y3 y4 y5 y6 y7 y8
          go_wp2_with fail
          refine (SameT_c _ _ _ _ _ _ _ _ (Row.of_own ho14) (HB.out.row.below B14.out)).mono ?_
          rintro e _ ⟨rfl, q14, rfl⟩
          have B15 := Lib.hid (below_drewN B14.out q14)
          have K15 : Hid (Blk (W14.drewN q14) g11 25 #[.int .u32 dip, .int .u32 stp, .int .u64 hep, .int .u64 cop, .int .u64 szp, .int .u64 op, .int .u32 d6p, .int .u32 dsp, .int .u64 o6p]) := K14.out
          clear ho14 B14 K14
          generalize W14.drewN q14 = W15 at *
          obtain ⟨y0, y1, y2, y3, y4, y5, y6, y7, y8⟩ := elv9 K15.out
          go_wp2_with fail
          refine (HX3.out _).mono ?_
          rintro e W16 ⟨A16, c16, rfl, ho16, hb16⟩
          have B16 := Lib.hid (B15.out.trans (hb16.mono B15.out.size))
          clear hb16 B15 K15 y0 y1 y2 y3 y4 y5 y6 y7 y8
          go_wp2_with fail
          refine (SameT_c _ _ _ _ _ _ _ _ (Row.of_own ho16) (HC.out.row.below B16.out)).mono ?_
          rintro e _ ⟨rfl, q16, rfl⟩
          go_wp2
          go_ret
          exact ⟨rfl, below_drewN B16.out _⟩
        · obtain ⟨p0, p1⟩ := hpb
          have b0 : (er != 0) = true := by rw [bne_iff_ne]; exact p0
          obtain ⟨rfl, rfl, rfl, rfl, rfl, rfl, rfl, rfl, rfl⟩ := tl_zero p1
          go_wp2
          go_ret
          exact ⟨rfl, B10.out⟩
end Go.Proofs.Ythpgeehfmblbhaa
