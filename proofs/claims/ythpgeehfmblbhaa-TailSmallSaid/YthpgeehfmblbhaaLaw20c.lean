/-
  LAW 20: TailSmall. No conditions.
-/
import Derived.Test.YthpgeehfmblbhaaLaw20
import Derived.BigQuiet
import Derived.Laws.EntriesVeiled
namespace Go.Proofs.Ythpgeehfmblbhaa
open Go.RowKit
set_option maxRecDepth 100000
set_option linter.unusedVariables false

theorem or_two (x y : F) : bits BinOp.or IntKind.u64 (x.n : Int) (IntKind.u64.wrap ((y.n : Int) * 2 ^ 8)) = ((x.n + 256 * y.n : Nat) : Int) := by
  have h := or64 x.n 1 y (by have := x.lt; omega) (by omega)
  have hy := y.lt
  rw [wrap_u64_lt (show y.n < two64 by unfold two64; omega)] at h
  simpa using h
set_option maxHeartbeats 2000000 in
theorem two_c (g : Nat) (A : Option Addr) (n c : Nat) (l : List F) (W : World) (hb : Blk W g 29 #[.slice A n c]) (h : RowIn W A n c l) (k : Nat) (z : Int) (hz : z = (k : Int)) (hk : k + 2 ≤ n) (hn : n ≤ 1000) :
    Calls Try.prog 18 #[.int .i64 z, .pointer (some ⟨g, 0, none⟩)] W fun e w' => e = .returned (.int .u64 (atL l k 2 : Nat)) ∧ ∃ q, w' = W.drewN q := by
  subst hz
  have hx := atL_two l k (by have := h.row.len; omega)
  obtain ⟨b, o, rfl, hl, q0⟩ := h.row.at_ (k := k) (by omega)
  obtain ⟨b', o', e, _, q1⟩ := h.row.at_ (k := k + 1) (by omega)
  cases e
  have b0 := (hb.cell 0).trans rfl
  have i0 : (0 : Int) ≤ (k : Int) := by omega
  have i1 : (k : Int) < (n : Int) := by omega
  have i2 : (k : Int) + 1 < (n : Int) := by omega
  have i3 : IntKind.i64.wrap ((k : Int) + 1) = (k : Int) + 1 := IntWalk.i64_in _ (by omega)
  have i4 : (0 : Int) ≤ (k : Int) + 1 := by omega
  have i5 : ((k : Int) + 1).toNat = k + 1 := by omega
  have hor := or_two (gt l k) (gt l (k + 1))
  rw [← hx] at hor
  have u0 : IntKind.u64.wrap ((gt l k).n : Int) = ((gt l k).n : Int) := by
    have := (gt l k).lt
    show ((gt l k).n : Int) % 18446744073709551616 = _; omega
  have u1 : IntKind.u64.wrap ((gt l (k + 1)).n : Int) = ((gt l (k + 1)).n : Int) := by
    have := (gt l (k + 1)).lt
    show ((gt l (k + 1)).n : Int) % 18446744073709551616 = _; omega
  have HO := Lib.hid hor
  clear hor hx h hb
  generalize gt l k = x at *
  generalize gt l (k + 1) = y at *
  go_enter Try.func18, Try.ntmps18
  go_wp2_with fail
  go_quiet (fail)
  go_wp2
  go_ret
  exact ⟨ret_u64 HO.out, _, rfl⟩
theorem or_four (a b : Nat) (ha : a < 65536) (hb : b < 65536) : bits BinOp.or IntKind.u64 (a : Int) (IntKind.u64.wrap ((b : Int) * 65536)) = ((a + 65536 * b : Nat) : Int) := by
  have h1 : (b : Int) * 65536 = ((b * 65536 : Nat) : Int) := by omega
  rw [h1, wrap_u64_lt (show b * 65536 < two64 by unfold two64; omega), bits_or_u64_nat _ _ (show a < two64 by unfold two64; omega) (show b * 65536 < two64 by unfold two64; omega)]
  have h2 := Nat.two_pow_add_eq_or_of_lt (show a < 2 ^ 16 from ha) b
  rw [show (2 : Nat) ^ 16 = 65536 from rfl] at h2
  rw [Nat.or_comm, Nat.mul_comm b, ← h2, Nat.add_comm]
set_option maxHeartbeats 2000000 in
theorem four_c (g gf : Nat) (T : TypeId) (A : Option Addr) (n c : Nat) (l : List F) (W : World) (hb : Blk W g 29 #[.slice A n c]) (hf : Blk W gf T #[.func (.func 18) #[] #[.pointer (some ⟨g, 0, none⟩)]]) (h : RowIn W A n c l) (k : Nat) (z : Int) (hz : z = (k : Int)) (hk : k + 4 ≤ n) (hn : n ≤ 1000) :
    Calls Try.prog 19 #[.int .i64 z, .pointer (some ⟨gf, 0, none⟩)] W fun e w' => e = .returned (.int .u64 (atL l k 4 : Nat)) ∧ ∃ q, w' = W.drewN q := by
  subst hz
  have hx := atL_four l k (by have := h.row.len; omega)
  have b0 := (hf.cell 0).trans rfl
  have i0 : (0 : Int) ≤ (k : Int) := by omega
  have i3 : IntKind.i64.wrap ((k : Int) + 2) = (k : Int) + 2 := IntWalk.i64_in _ (by omega)
  have hor := or_four (atL l k 2) (atL l (k + 2) 2) (atL_lt2 _ _) (atL_lt2 _ _)
  rw [← hx] at hor
  have H1 := Lib.hid (fun q => two_c g A n c l (W.drewN q) hb (h.drewN q) k (k : Int) rfl (by omega) hn)
  have H2 := Lib.hid (fun q => two_c g A n c l (W.drewN q) hb (h.drewN q) (k + 2) ((k : Int) + 2) (by omega) (by omega) hn)
  have HO := Lib.hid hor
  clear hor hx h hb hf
  generalize atL l k 2 = x at *
  generalize atL l (k + 2) 2 = y at *
  go_enter Try.func19, Try.ntmps19
  go_wp2_with fail
  go_quiet ((go_at_call 18; first | with_reducible exact quiet_one (H1.out _) | with_reducible exact quiet_one (H2.out _)))
  go_wp2
  go_ret
  exact ⟨ret_u64 HO.out, _, rfl⟩
set_option maxHeartbeats 8000000 in
theorem walk_TailSmall (w : World) (t : Tl) (ht : TlW t) :
    Calls Try.prog 6 #[tlV t] w fun e w' => e = .returned (.bool true) ∧ Below w.heap.size w w' := by
  have HG1 := Lib.hid (fun W => Great_c t ht W)
  have HG2 := Lib.hid (fun W => Locator_c t ht W)
  have HG3 := Lib.hid (fun W => End_c t ht W)
  obtain ⟨_, E1, E2, E3, E4, E5, E6, E7⟩ := tlB3_ats t
  have hd1 := ht.di
  have hd2 := ht.st
  clear ht
  obtain ⟨X, hX⟩ : ∃ X, X = nsB (tlP3 t) := ⟨_, rfl⟩
  have eX : tlB3 t = X := hX.symm
  rw [eX] at E1 E2 E3 E4 E5 E6 E7
  rw [← hX] at HG3
  clear hX eX
  generalize nsB (tlP1 t) = X1 at *
  generalize nsB (tlP2 t) = X2 at *
  obtain ⟨di, st, he, co, sz, o, d6, ds, o6⟩ := t
  unfold tlV tlC at *
  dsimp only at *
  have e1 := Lib.hid E1
  have e2 := Lib.hid E2
  have e3 := Lib.hid E3
  have e4 := Lib.hid E4
  have e5 := Lib.hid E5
  have e6 := Lib.hid E6
  have e7 := Lib.hid E7
  clear E1 E2 E3 E4 E5 E6 E7
  have u1 : IntKind.u64.wrap (di : Int) = (di : Int) := by show (di : Int) % 18446744073709551616 = _; omega
  have u2 : IntKind.u64.wrap (st : Int) = (st : Int) := by show (st : Int) % 18446744073709551616 = _; omega
  have HK0 := Lib.hid (Blk.new w 25 #[.int .u32 di, .int .u32 st, .int .u64 he, .int .u64 co, .int .u64 sz, .int .u64 o, .int .u32 d6, .int .u32 ds, .int .u64 o6])
  have HL0 := Lib.hid ((Below.refl w.heap.size w).alloc (Nat.le_refl _) (.cells #[.int .u32 di, .int .u32 st, .int .u64 he, .int .u64 co, .int .u64 sz, .int .u64 o, .int .u32 d6, .int .u32 ds, .int .u64 o6] 25))
  go_enter Try.func6, Try.ntmps6
  go_wp2_with fail
  refine (alive20_c _).mono ?_
  rintro e W1 ⟨rfl, hb1⟩
  have HK1 := Lib.hid (HK0.out.below HK0.out.lt hb1)
  have HL1 := Lib.hid (HL0.out.trans (hb1.mono HL0.out.size))
  clear hb1 HK0 HL0
  have q0 := ld_tl HK1.out rfl
  go_wp2_with (with_reducible refine wpList_load_var _ _ (by with_unfolding_all rfl) q0 ?_)
  refine (HG3.out _).mono ?_
  rintro e W2 ⟨A2, c2, rfl, ho2, hb2⟩
  have hba := (Below.refl W2.heap.size W2).alloc (Nat.le_refl _) (.cells #[.slice A2 22 c2] 29)
  have HK3 := Lib.hid ((HK1.out.below HK1.out.lt hb2).below (HK1.out.below HK1.out.lt hb2).lt hba)
  have HR3 := Lib.hid ((own_in ho2).below hba)
  have HC3 := Lib.hid (Blk.new W2 29 #[.slice A2 22 c2])
  have HL3 := Lib.hid ((HL1.out.trans (hb2.mono HL1.out.size)).trans (hba.mono (HL1.out.trans (hb2.mono HL1.out.size)).size))
  clear q0 ho2 hb2 hba HK1 HL1
  obtain ⟨d0, d1, d2, d3, d4, d5, d6', d7, d8⟩ := elv9 HK3.out
  go_wp2_with fail
  generalize W2.alloc (.cells #[.slice A2 22 c2] 29) = W3 at *
  generalize W2.heap.size = gc at *
  refine (HG1.out _).mono ?_
  rintro e W4 ⟨A4, c4, rfl, ho4, hb4⟩
  have HK4 := Lib.hid (HK3.out.below HK3.out.lt hb4)
  have HR4 := Lib.hid (HR3.out.below hb4)
  have HC4 := Lib.hid (HC3.out.below HC3.out.lt hb4)
  have HL4 := Lib.hid (HL3.out.trans (hb4.mono HL3.out.size))
  clear ho4 hb4 HK3 HR3 HC3 HL3 d0 d1 d2 d3 d4 d5 d6' d7 d8
  obtain ⟨d0, d1, d2, d3, d4, d5, d6', d7, d8⟩ := elv9 HK4.out
  go_wp2_with fail
  refine (HG2.out _).mono ?_
  rintro e W5 ⟨A5, c5, rfl, ho5, hb5⟩
  have hk5 := HK4.out.below HK4.out.lt hb5
  have hr5 := HR4.out.below hb5
  have hc5 := HC4.out.below HC4.out.lt hb5
  have hl5 := HL4.out.trans (hb5.mono HL4.out.size)
  have hba := (Below.refl W5.heap.size W5).alloc (Nat.le_refl _) (.cells #[.func (.func 18) #[] #[.pointer (some ⟨gc, 0, none⟩)]] 41)
  have HK6 := Lib.hid (hk5.below hk5.lt hba)
  have HR6 := Lib.hid (hr5.below hba)
  have HC6 := Lib.hid (hc5.below hc5.lt hba)
  have HF6 := Lib.hid (Blk.new W5 41 #[.func (.func 18) #[] #[.pointer (some ⟨gc, 0, none⟩)]])
  have HL6 := Lib.hid (hl5.trans (hba.mono hl5.size))
  clear ho5 hb5 HK4 HR4 HC4 HL4 d0 d1 d2 d3 d4 d5 d6' d7 d8 hk5 hr5 hc5 hl5 hba
  go_wp2_with fail
  generalize W5.alloc (.cells #[.func (.func 18) #[] #[.pointer (some ⟨gc, 0, none⟩)]] 41) = W6 at *
  generalize W5.heap.size = gf at *
  obtain ⟨d0, d1, d2, d3, d4, d5, d6', d7, d8⟩ := elv9 HK6.out
  have f0 := (HF6.out.cell 0).trans rfl
  obtain ⟨k1, hk1⟩ : ∃ k, min di 65535 = k := ⟨_, rfl⟩
  obtain ⟨k2, hk2⟩ : ∃ k, min st 65535 = k := ⟨_, rfl⟩
  obtain ⟨k3, hk3⟩ : ∃ k, min he 65535 = k := ⟨_, rfl⟩
  obtain ⟨k4, hk4⟩ : ∃ k, min co 65535 = k := ⟨_, rfl⟩
  obtain ⟨k5, hk5⟩ : ∃ k, min sz 4294967295 = k := ⟨_, rfl⟩
  obtain ⟨k6, hk6⟩ : ∃ k, min o 4294967295 = k := ⟨_, rfl⟩
  rw [hk1] at e1
  rw [hk2] at e2
  rw [hk3] at e3
  rw [hk4] at e4
  rw [hk5] at e5
  rw [hk6] at e6
  have m1 : min (di : Int) 65535 = (k1 : Int) := by omega
  have m2 : min (st : Int) 65535 = (k2 : Int) := by omega
  have m3 : min (he : Int) 65535 = (k3 : Int) := by omega
  have m4 : min (co : Int) 65535 = (k4 : Int) := by omega
  have m5 : min (sz : Int) 4294967295 = (k5 : Int) := by omega
  have m6 : min (o : Int) 4294967295 = (k6 : Int) := by omega
  have t1 := fun q => two_c gc A2 22 c2 X (W6.drewN q) HC6.out (HR6.out.drewN q) 4 4 rfl (by omega) (by omega)
  have t2 := fun q => two_c gc A2 22 c2 X (W6.drewN q) HC6.out (HR6.out.drewN q) 6 6 rfl (by omega) (by omega)
  have t3 := fun q => two_c gc A2 22 c2 X (W6.drewN q) HC6.out (HR6.out.drewN q) 8 8 rfl (by omega) (by omega)
  have t4 := fun q => two_c gc A2 22 c2 X (W6.drewN q) HC6.out (HR6.out.drewN q) 10 10 rfl (by omega) (by omega)
  have t5 := fun q => four_c gc gf 41 A2 22 c2 X (W6.drewN q) HC6.out HF6.out (HR6.out.drewN q) 12 12 rfl (by omega) (by omega)
  have t6 := fun q => four_c gc gf 41 A2 22 c2 X (W6.drewN q) HC6.out HF6.out (HR6.out.drewN q) 16 16 rfl (by omega) (by omega)
  have t7 := fun q => two_c gc A2 22 c2 X (W6.drewN q) HC6.out (HR6.out.drewN q) 20 20 rfl (by omega) (by omega)
  rw [e1.out] at t1
  rw [e2.out] at t2
  rw [e3.out] at t3
  rw [e4.out] at t4
  rw [e5.out] at t5
  rw [e6.out] at t6
  rw [e7.out] at t7
  have T1 := Lib.hid t1
  have T2 := Lib.hid t2
  have T3 := Lib.hid t3
  have T4 := Lib.hid t4
  have T5 := Lib.hid t5
  have T6 := Lib.hid t6
  have T7 := Lib.hid t7
  clear t1 t2 t3 t4 t5 t6 t7 hk1 hk2 hk3 hk4 hk5 hk6 e1 e2 e3 e4 e5 e6 e7
  go_quiet ((first
    | (go_at_call 18; first | with_reducible exact quiet_one (T1.out _) | with_reducible exact quiet_one (T2.out _) | with_reducible exact quiet_one (T3.out _) | with_reducible exact quiet_one (T4.out _) | with_reducible exact quiet_one (T7.out _))
    | (go_at_call 19; first | with_reducible exact quiet_one (T5.out _) | with_reducible exact quiet_one (T6.out _))))
  go_wp2
  go_ret
  exact ⟨rfl, below_drewN HL6.out _⟩
end Go.Proofs.Ythpgeehfmblbhaa
