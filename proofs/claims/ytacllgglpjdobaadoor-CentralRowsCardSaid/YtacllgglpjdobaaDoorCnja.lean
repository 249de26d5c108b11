/-
  RECORDS OF THE DIRECTORY: a record's bytes are laid (WRITTEN by wip/gen19j.py). No conditions (but for the length of a name).
-/
import Derived.Test.YtacllgglpjdobaaDoorCni
namespace Go.Proofs.YtacllgglpjdobaaDoor
open Go.RowKit
set_option maxRecDepth 100000
set_option linter.unusedVariables false

theorem u64N (n : Nat) (h : n < 18446744073709551616) : IntKind.u64.wrap (n : Int) = (n : Int) := by show (n : Int) % 18446744073709551616 = _; omega
theorem two64_of {n : Nat} (h : n < 18446744073709551616) : n < two64 := h

set_option maxHeartbeats 2000000 in
theorem layC_a (c : Rc) (hb : bh c = 0) (m t d : Nat) (hm : c.h.m = (m : Int)) (hm2 : m < 65536) (hd : d < 65536) (ht : t < 65536) (hW : RcW c) (hn : c.h.nm.length ≤ 65535) (w : World) :
    Calls Tryd.prog 23 #[rcV c, .int .u16 d, .int .u16 t] w fun e w' => ∃ A N ca, e = .returned (.slice A N ca) ∧ w'.ownsRow w.heap.size 5 1 (.slice A N ca) N (cs (cdB c m t d)) ∧ Below w.heap.size w w' := by
  obtain ⟨i0, hi, hz0, hz1, hz2⟩ := info_parts info_u8
  have hk : ¬ 65535 ≤ c.d := by
    unfold bh at hb
    intro e
    rw [if_pos e] at hb
    rw [if_neg (by omega)] at hb
    omega
  have HG := Lib.hid (fun w => behind_c hW w)
  have HTG := Lib.hid (fun w => tooGreat_c hW w)
  have HS := Lib.hid (SizeC_c hW (by omega))
  have hbl := bh_le c
  have hgl := bgs_le c
  obtain ⟨Z, hZ, hZ2⟩ : ∃ Z : Nat, szC c = (Z : Int) ∧ Z ≤ 100000 := ⟨(szC c).toNat, by unfold szC; omega, by unfold szC; omega⟩
  rw [hZ] at HS
  have hpk := hW.h.pk
  have hsz := hW.h.sz
  have ho := hW.o
  have hkd := hW.d
  have hsum := hW.h.sum
  unfold two64 at hpk hsz ho
  have hgz : ∀ z ∈ bgs c, z < two64 := fun x hx => by
    have h1 := (List.mem_filter.1 hx).1
    simp at h1
    unfold two64
    omega
  have hB := cdB_laid c m t d
  have hvn : vnC c = 20 := if_pos hb
  rw [hvn, show exB c = [] from by have := exB_length c; rw [hb] at this; exact List.eq_nil_of_length_eq_zero this, List.append_nil] at hB
  have HB := Lib.hid hB
  have HGZ := Lib.hid hgz
  clear hB hZ hW hgz hvn
  generalize cdB c m t d = X at *
  obtain ⟨⟨mm, ⟨y, mo, dd, hh, mi, s⟩, sum, p, z, nm⟩, k, o⟩ := c
  dsimp only at hm hn hpk hsz ho hkd hsum HB
  have hkd5 : decide ((65535 : Int) ≤ (k : Int)) = false := decide_eq_false (by dsimp only at hk; omega)
  subst hm
  have hnS := Lib.hid (S_size nm)
  generalize hnl : nm.length = nl at *
  have HNL := Lib.hid hnl
  clear hnl
  unfold rcV rcC at *
  dsimp only at *
  generalize bh ⟨⟨(m : Int), ⟨y, mo, dd, hh, mi, s⟩, sum, p, z, nm⟩, k, o⟩ = b at *
  generalize bgs ⟨⟨(m : Int), ⟨y, mo, dd, hh, mi, s⟩, sum, p, z, nm⟩, k, o⟩ = G at *
  have hb0 : decide (0 < b) = false := decide_eq_false (by omega)
  clear hb hk
  have m1 : min (p : Int) 4294967295 = ((min p 4294967295 : Nat) : Int) := by omega
  have m2 : min (z : Int) 4294967295 = ((min z 4294967295 : Nat) : Int) := by omega
  have m3 : min (o : Int) 4294967295 = ((min o 4294967295 : Nat) : Int) := by omega
  have m4 : min (k : Int) 65535 = ((min k 65535 : Nat) : Int) := by omega
  have l1 : min p 4294967295 < 18446744073709551616 := by omega
  have l2 : min z 4294967295 < 18446744073709551616 := by omega
  have l3 : min o 4294967295 < 18446744073709551616 := by omega
  have l4 : min k 65535 < 18446744073709551616 := by omega
  generalize min p 4294967295 = p1 at *
  generalize min z 4294967295 = z1 at *
  generalize min o 4294967295 = o1 at *
  generalize min k 65535 = k1 at *
  have K1 : Hid (∀ z ∈ [33639248], z < two64) := by unfold Hid two64; simp
  have K2 : Hid (∀ z ∈ [45, 20, 2048, m, t, d], z < two64) := by
    intro x hx
    unfold two64
    simp at hx
    omega
  have K3 : Hid (∀ z ∈ [sum, p1, z1], z < two64) := by
    intro x hx
    unfold two64
    simp at hx
    omega
  have K4 : Hid (∀ z ∈ [nl, b, 0, k1, 0], z < two64) := by
    intro x hx
    unfold two64
    simp at hx
    omega
  have K5 : Hid (∀ z ∈ [0, o1], z < two64) := by
    intro x hx
    unfold two64
    simp at hx
    omega
  have K6 : Hid (∀ z ∈ [1, b - 4], z < two64) := by
    intro x hx
    unfold two64
    simp at hx
    omega
  have K7 : Hid (∀ z ∈ [k], z < two64) := by
    intro x hx
    unfold two64
    simp at hx
    omega
  have u1 : IntKind.u64.wrap (m : Int) = (m : Int) := u64N _ (by omega)
  have u2 : IntKind.u64.wrap (t : Int) = (t : Int) := u64N _ (by omega)
  have u3 : IntKind.u64.wrap (d : Int) = (d : Int) := u64N _ (by omega)
  have u4 : IntKind.u64.wrap (sum : Int) = (sum : Int) := u64N _ (by omega)
  have u5 : IntKind.u64.wrap ((S nm).size : Int) = (nl : Int) := by rw [hnS.out]; exact u64N _ (by omega)
  have u6 : IntKind.u64.wrap (b : Int) = (b : Int) := u64N _ (by omega)
  have u7 : IntKind.u64.wrap (k1 : Int) = (k1 : Int) := u64N _ (by omega)
  have u8 : IntKind.u64.wrap (k : Int) = (k : Int) := u64N _ (by omega)
  clear l1 l2 l3 l4
  have HK := Lib.hid (Blk.new w 29 #[.int .i64 (m : Nat), .int .i64 y, .int .i64 mo, .int .i64 dd, .int .i64 hh, .int .i64 mi, .int .i64 s, .int .u32 sum, .int .u64 p, .int .u64 z, .string (S nm), .int .u32 k, .int .u64 o])
  have HB0 := Lib.hid ((Below.refl w.heap.size w).alloc (Nat.le_refl _) (.cells #[.int .i64 (m : Nat), .int .i64 y, .int .i64 mo, .int .i64 dd, .int .i64 hh, .int .i64 mi, .int .i64 s, .int .u32 sum, .int .u64 p, .int .u64 z, .string (S nm), .int .u32 k, .int .u64 o] 29))
  go_enter Tryd.func23, Tryd.ntmps23
  have q1 := ld_rc HK.out rfl
  go_wp2_with (with_reducible refine wpList_load_var _ _ (by with_unfolding_all rfl) q1 ?_)
  refine (HS.out _).mono ?_
  rintro e W2 ⟨rfl, hb2⟩
  have HK2 := Lib.hid (HK.out.below HK.out.lt hb2)
  have HB3 := Lib.hid (HB0.out.trans (hb2.mono HB0.out.size))
  have hs2 : w.heap.size + 1 ≤ W2.heap.size := HK2.out.lt
  clear HK HB0 hb2 q1 HS
  have SZ : ∀ w3, w3.ownsRow (w.heap.size + 1) 5 1 (.slice (some ⟨W2.heap.size, 0, none⟩) 0 Z) 0 [] → W2.grownBy w3 none → LaySt w (w3.alloc (.cells #[.slice (some ⟨W2.heap.size, 0, none⟩) 0 Z] 31)) 29 #[.int .i64 (m : Nat), .int .i64 y, .int .i64 mo, .int .i64 dd, .int .i64 hh, .int .i64 mi, .int .i64 s, .int .u32 sum, .int .u64 p, .int .u64 z, .string (S nm), .int .u32 k, .int .u64 o] w3.heap.size (some ⟨W2.heap.size, 0, none⟩) 0 Z [] := by
    intro w3 hown3 hg3
    have hb3 : Below W2.heap.size W2 w3 := (Below.refl _ _).grown hg3 (Nat.le_refl _) (fun k h => by cases h)
    have hb4 := (Below.refl w3.heap.size w3).alloc (Nat.le_refl _) (.cells #[.slice (some ⟨W2.heap.size, 0, none⟩) 0 Z] 31)
    have hs3 := hb3.size
    refine ⟨(HK2.out.below HK2.out.lt hb3).below (by omega) hb4, ⟨Blk.new _ _ _, own_below hown3 hb4, fun g hg => ?_, by omega⟩, HB3.out.trans ((hb3.trans (hb4.mono hs3)).mono HB3.out.size)⟩
    have := (hown3.lt g hg).2
    omega
  have HSZ := Lib.hid SZ
  clear SZ
  go_wp2_with (first | (with_reducible refine wpList_load_var _ _ (by with_unfolding_all rfl) q0 ?_) | (at_make; refine wpList_make_own _ rfl _ _ 31 rfl (w.heap.size + 1) 5 i0 (.int .u8 0) 1 Tryd.underlying31 hi hz0 hz1 _ _ _ Z rfl rfl rfl (by rw [hz2]; omega) (by unfold maxLen; omega) hs2 ?_; intro w3 hown3 hg3; have S0 := Lib.hid (HSZ.out w3 hown3 hg3); have q0 := ld_rc S0.out.box rfl; clear hown3 hg3))
  refine (HG.out _).mono ?_
  rintro e W4 ⟨rfl, hbb⟩
  have S1 := Lib.hid (S0.out.below hbb)
  clear hbb S0 q0 HSZ HK2 HB3 hs2 HG
  go_wp2_with fail
  refine (S1.out.putC (by omega) 4 4 rfl (by omega) _ K1.out 1 rfl (by omega) _ _ (by simp [uv]) _ _ (by simp)).mono ?_
  rintro e W2 ⟨rfl, V2, c2, s2⟩
  have S2 : Hid (LaySt w W2 _ _ _ V2 4 c2 _) := s2
  clear s2 S1
  have d0 := (S2.out.box.cell 0).trans rfl
  go_wp2_with fail
  refine (S2.out.putC (by omega) 2 2 rfl (by omega) _ K2.out 6 rfl (by omega) _ _ (by simp [uv]) _ _ (by simp)).mono ?_
  rintro e W3 ⟨rfl, V3, c3, s3⟩
  have S3 : Hid (LaySt w W3 _ _ _ V3 16 c3 _) := s3
  clear s3 S2
  clear d0
  have d7 := (S3.out.box.cell 7).trans rfl
  have d8 := (S3.out.box.cell 8).trans rfl
  have d9 := (S3.out.box.cell 9).trans rfl
  go_wp2_with fail
  refine (S3.out.putC (by omega) 4 4 rfl (by omega) _ K3.out 3 rfl (by omega) _ _ (by simp [uv]) _ _ (by simp)).mono ?_
  rintro e W4 ⟨rfl, V4, c4, s4⟩
  have S4 : Hid (LaySt w W4 _ _ _ V4 28 c4 _) := s4
  clear s4 S3
  clear d7 d8 d9
  have d10 := (S4.out.box.cell 10).trans rfl
  have d11 := (S4.out.box.cell 11).trans rfl
  go_wp2_with fail
  refine (S4.out.putC (by omega) 2 2 rfl (by omega) _ K4.out 5 rfl (by omega) _ _ (by simp [uv]) _ _ (by simp)).mono ?_
  rintro e W5 ⟨rfl, V5, c5, s5⟩
  have S5 : Hid (LaySt w W5 _ _ _ V5 38 c5 _) := s5
  clear s5 S4
  clear d10 d11
  have d12 := (S5.out.box.cell 12).trans rfl
  go_wp2_with fail
  refine (S5.out.putC (by omega) 4 4 rfl (by omega) _ K5.out 2 rfl (by omega) _ _ (by simp [uv]) _ _ (by simp)).mono ?_
  rintro e W6 ⟨rfl, V6, c6, s6⟩
  have S6 : Hid (LaySt w W6 _ _ _ V6 46 c6 _) := s6
  clear s6 S5
  clear d12
  have d10 := (S6.out.box.cell 10).trans rfl
  have x0 := (S6.out.bx.blk.cell 0).trans rfl
  have hq6 := S6.out.bx.lt
  have hb6 := S6.out.box.lt
  go_wp2_with (first | (
    refine wpList_append_str i0 hi hz0 hz1 hz2 (by rfl) (.tmp 69) (.tmp 72) (by rfl) (w.heap.size + 1) (.slice V6 46 c6) 46 _ (by simp [go_sem]) S6.out.bx.own nm (by simp [go_sem]) (by have := HNL.out; omega) (by omega) ?_
    intro v7 w7 hL
    obtain ⟨A7, c7, rfl, hown7, hg7, hnw7⟩ := hL
    rw [HNL.out] at hown7 hnw7
    rw [← cs_append] at hown7
    have b7 := S6.out.bx.blk.kept hg7 ⟨hq6, fun e => S6.out.bx.ne _ e rfl⟩
    have f7 := b7.frozen 0
    have z7 : w7.cell? ⟨w3.heap.size, 0, none⟩ = some (.slice V6 46 c6) := (b7.cell 0).trans rfl
    have S7 := Lib.hid (S6.out.str hown7 hg7 hnw7)
    rw [HNL.out]
    have d11 := (S7.out.box.cell 11).trans rfl
    have x7 := (S7.out.bx.blk.cell 0).trans rfl
    clear hown7 hg7 hnw7 b7))
  go_ret
  exact ⟨_, _, _, rfl, by rw [← HB.out]; exact own_base2 S7.out.bx.own (by omega), S7.out.bel⟩
end Go.Proofs.YtacllgglpjdobaaDoor
