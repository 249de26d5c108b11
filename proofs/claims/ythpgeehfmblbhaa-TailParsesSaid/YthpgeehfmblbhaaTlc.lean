/-
  TAILS: the closures of the locator and of the end. No conditions.
-/
import Derived.Test.YthpgeehfmblbhaaTlb
namespace Go.Proofs.Ythpgeehfmblbhaa
open Go.RowKit
set_option maxRecDepth 100000
set_option linter.unusedVariables false

set_option maxHeartbeats 2000000 in
theorem Loc1_c (t : Tl) (ht : TlW t) (w W : World) (gt q base : Nat) (V : Option Addr) (c : Nat) (S : TlSt w W gt 25 (tlC t) q base V 0 c []) :
    Calls Try.prog 23 #[.func (.func 31) #[] #[.pointer (some ⟨q, 0, none⟩)], .pointer (some ⟨gt, 0, none⟩)] W fun e w' => e = .returned (.tuple #[]) ∧ ∃ V' c', TlSt w w' gt 25 (tlC t) q base V' 20 c' (nsB (tlP2 t)) := by
  have HE : Hid (((([] ++ nsB (szP 4 [117853008])) ++ nsB (szP 4 [t.d6])) ++ nsB (szP 8 [t.o6])) ++ nsB (szP 4 [t.ds]) = nsB (tlP2 t)) := by
    unfold Hid tlP2 szP
    simp [nsB, List.append_assoc]
  have S0 := Lib.hid S
  have d1 := ht.d6
  have d2 := ht.ds
  have d3 := ht.o6
  clear S ht
  generalize nsB (tlP2 t) = X at *
  obtain ⟨di, st, he, co, sz, o, d6, ds, o6⟩ := t
  unfold tlC at *
  dsimp only at *
  have u1 : IntKind.u64.wrap (d6 : Int) = (d6 : Int) := by show (d6 : Int) % 18446744073709551616 = _; omega
  have u2 : IntKind.u64.wrap (ds : Int) = (ds : Int) := by show (ds : Int) % 18446744073709551616 = _; omega
  go_enter Try.func23, Try.ntmps23
  go_wp2_with fail
  refine (S0.out.put (by omega) 4 (by omega) [117853008] (by unfold two64; simp) 1 rfl (by omega) _ _ rfl _ _ (by simp) _ rfl).mono ?_
  rintro e W1 ⟨rfl, V1, c1, s1⟩
  have S1 : Hid (TlSt w W1 _ _ _ _ _ V1 4 c1 _) := s1
  clear s1 S0
  have e6 := (S1.out.box.cell 6).trans rfl
  go_wp2_with fail
  refine (S1.out.put (by omega) 4 (by omega) [d6] (by unfold two64 at *; simp; omega) 1 rfl (by omega) _ _ rfl _ _ (by simp) _ rfl).mono ?_
  rintro e W2 ⟨rfl, V2, c2, s2⟩
  have S2 : Hid (TlSt w W2 _ _ _ _ _ V2 8 c2 _) := s2
  clear s2 S1 e6
  have e8 := (S2.out.box.cell 8).trans rfl
  go_wp2_with fail
  refine (S2.out.put (by omega) 8 (by omega) [o6] (by unfold two64 at *; simp; omega) 1 rfl (by omega) _ _ rfl _ _ (by simp) _ rfl).mono ?_
  rintro e W3 ⟨rfl, V3, c3, s3⟩
  have S3 : Hid (TlSt w W3 _ _ _ _ _ V3 16 c3 _) := s3
  clear s3 S2 e8
  have e7 := (S3.out.box.cell 7).trans rfl
  go_wp2_with fail
  refine (S3.out.put (by omega) 4 (by omega) [ds] (by unfold two64 at *; simp; omega) 1 rfl (by omega) _ _ rfl _ _ (by simp) _ rfl).mono ?_
  rintro e W4 ⟨rfl, V4, c4, s4⟩
  have S4 : Hid (TlSt w W4 _ _ _ _ _ V4 20 c4 _) := s4
  rw [HE.out] at S4
  clear s4 S3 e7
  go_wp2
  go_end0
  exact ⟨rfl, V4, c4, S4.out⟩
set_option maxHeartbeats 2000000 in
theorem End1_c (t : Tl) (ht : TlW t) (w W : World) (gt q base : Nat) (V : Option Addr) (c : Nat) (S : TlSt w W gt 25 (tlC t) q base V 0 c []) :
    Calls Try.prog 24 #[.func (.func 31) #[] #[.pointer (some ⟨q, 0, none⟩)], .pointer (some ⟨gt, 0, none⟩)] W fun e w' => e = .returned (.tuple #[]) ∧ ∃ V' c', TlSt w w' gt 25 (tlC t) q base V' 22 c' (nsB (tlP3 t)) := by
  have HE : Hid (((([] ++ nsB (szP 4 [101010256])) ++ nsB (szP 2 [min t.di 65535, min t.st 65535, min t.he 65535, min t.co 65535])) ++ nsB (szP 4 [min t.sz 4294967295, min t.o 4294967295])) ++ nsB (szP 2 [0]) = nsB (tlP3 t)) := by
    unfold Hid tlP3 szP
    simp [nsB, List.append_assoc]
  have S0 := Lib.hid S
  clear S
  generalize nsB (tlP3 t) = X at *
  obtain ⟨k1, hk1, l1⟩ : ∃ k, min t.di 65535 = k ∧ k ≤ 65535 := ⟨_, rfl, by omega⟩
  obtain ⟨k2, hk2, l2⟩ : ∃ k, min t.st 65535 = k ∧ k ≤ 65535 := ⟨_, rfl, by omega⟩
  obtain ⟨k3, hk3, l3⟩ : ∃ k, min t.he 65535 = k ∧ k ≤ 65535 := ⟨_, rfl, by omega⟩
  obtain ⟨k4, hk4, l4⟩ : ∃ k, min t.co 65535 = k ∧ k ≤ 65535 := ⟨_, rfl, by omega⟩
  obtain ⟨k5, hk5, l5⟩ : ∃ k, min t.sz 4294967295 = k ∧ k ≤ 4294967295 := ⟨_, rfl, by omega⟩
  obtain ⟨k6, hk6, l6⟩ : ∃ k, min t.o 4294967295 = k ∧ k ≤ 4294967295 := ⟨_, rfl, by omega⟩
  rw [hk1, hk2, hk3, hk4, hk5, hk6] at HE
  have m1 : min (t.di : Int) 65535 = (k1 : Int) := by omega
  have m2 : min (t.st : Int) 65535 = (k2 : Int) := by omega
  have m3 : min (t.he : Int) 65535 = (k3 : Int) := by omega
  have m4 : min (t.co : Int) 65535 = (k4 : Int) := by omega
  have m5 : min (t.sz : Int) 4294967295 = (k5 : Int) := by omega
  have m6 : min (t.o : Int) 4294967295 = (k6 : Int) := by omega
  clear hk1 hk2 hk3 hk4 hk5 hk6 ht
  obtain ⟨di, st, he, co, sz, o, d6, ds, o6⟩ := t
  unfold tlC at *
  dsimp only at *
  have u1 : IntKind.u64.wrap (k1 : Int) = (k1 : Int) := by show (k1 : Int) % 18446744073709551616 = _; omega
  have u2 : IntKind.u64.wrap (k2 : Int) = (k2 : Int) := by show (k2 : Int) % 18446744073709551616 = _; omega
  go_enter Try.func24, Try.ntmps24
  go_wp2_with fail
  refine (S0.out.put (by omega) 4 (by omega) [101010256] (by unfold two64; simp) 1 rfl (by omega) _ _ rfl _ _ (by simp) _ rfl).mono ?_
  rintro e W1 ⟨rfl, V1, c1, s1⟩
  have S1 : Hid (TlSt w W1 _ _ _ _ _ V1 4 c1 _) := s1
  clear s1 S0
  have e0 := (S1.out.box.cell 0).trans rfl
  have e1 := (S1.out.box.cell 1).trans rfl
  have e2 := (S1.out.box.cell 2).trans rfl
  have e3 := (S1.out.box.cell 3).trans rfl
  go_wp2_with fail
  refine (S1.out.put (by omega) 2 (by omega) [k1, k2, k3, k4] (by unfold two64 at *; simp; omega) 4 rfl (by omega) _ _ rfl _ _ (by simp) _ rfl).mono ?_
  rintro e W2 ⟨rfl, V2, c2, s2⟩
  have S2 : Hid (TlSt w W2 _ _ _ _ _ V2 12 c2 _) := s2
  clear s2 S1 e0 e1 e2 e3
  have e4 := (S2.out.box.cell 4).trans rfl
  have e5 := (S2.out.box.cell 5).trans rfl
  go_wp2_with fail
  refine (S2.out.put (by omega) 4 (by omega) [k5, k6] (by unfold two64 at *; simp; omega) 2 rfl (by omega) _ _ rfl _ _ (by simp) _ rfl).mono ?_
  rintro e W3 ⟨rfl, V3, c3, s3⟩
  have S3 : Hid (TlSt w W3 _ _ _ _ _ V3 20 c3 _) := s3
  clear s3 S2 e4 e5
  go_wp2_with fail
  refine (S3.out.put (by omega) 2 (by omega) [0] (by unfold two64; simp) 1 rfl (by omega) _ _ rfl _ _ (by simp) _ rfl).mono ?_
  rintro e W4 ⟨rfl, V4, c4, s4⟩
  have S4 : Hid (TlSt w W4 _ _ _ _ _ V4 22 c4 _) := s4
  rw [HE.out] at S4
  clear s4 S3
  go_wp2
  go_end0
  exact ⟨rfl, V4, c4, S4.out⟩
end Go.Proofs.Ythpgeehfmblbhaa
