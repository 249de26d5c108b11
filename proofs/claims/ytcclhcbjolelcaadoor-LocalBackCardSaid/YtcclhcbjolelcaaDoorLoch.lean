/-
  LOCAL HEADERS: a header's bytes are laid (WRITTEN by wip/gen18h.py). No conditions (but for the length of a name).
-/
import Derived.Test.YtcclhcbjolelcaaDoorLocg
namespace Go.Proofs.YtcclhcbjolelcaaDoor
open Go.RowKit
set_option maxRecDepth 100000
set_option linter.unusedVariables false

theorem laid_put {A B C D E X : List F} (h : X = A ++ (B ++ (C ++ (D ++ E)))) : [] ++ A ++ B ++ C ++ D ++ E = X := by
  rw [h, List.nil_append, List.append_assoc, List.append_assoc, List.append_assoc]

set_option maxHeartbeats 1000000 in
theorem lay_false (h : Hd) (hg : grt h = false) (m d t : Nat) (hm : h.m = (m : Int)) (hm2 : m < 65536) (hd : d < 65536) (ht : t < 65536) (hw : HdW h) (hn : h.nm.length ≤ 65535) (w : World) :
    Calls Tryd.prog 21 #[hdV h, .int .u16 d, .int .u16 t] w fun e w' => ∃ A N c, e = .returned (.slice A N c) ∧ w'.ownsRow w.heap.size 5 1 (.slice A N c) N (cs (hdB h d t)) ∧ Below w.heap.size w w' := by
  obtain ⟨i0, hi, hz0, hz1, hz2⟩ := info_parts info_u8
  have HG := Lib.hid (isGreat_c h)
  rw [hg] at HG
  have HS := Lib.hid (SizeL_c h (by omega))
  obtain ⟨Z, hZ, hZ2⟩ : ∃ Z : Nat, szH h = (Z : Int) ∧ Z ≤ 100000 := ⟨(szH h).toNat, by unfold szH; split <;> omega, by unfold szH; split <;> omega⟩
  rw [hZ] at HS
  have hpk := hw.pk
  have hsz := hw.sz
  have hsum := hw.sum
  have hB : hdB h d t = nsB [(67324752, 4), (verN false, 2), (2048, 2), (m, 2)] ++ (nsB [(t, 2), (d, 2), (h.sum, 4), (fulN false h.pk, 4), (fulN false h.sz, 4)] ++ (nsB [(h.nm.length, 2), (behN false, 2)] ++ (nmF h.nm ++ []))) := by
    unfold hdB hdT hd1 hd2 hd3 hd4
    rw [hg, hm]
    simp
  have HB := Lib.hid (laid_put hB)
  have hk1 : NsOk [(67324752, 4), (verN false, 2), (2048, 2), (m, 2)] := by
    intro p hp
    unfold two64
    simp [verN] at hp
    rcases hp with rfl | rfl | rfl | rfl <;> exact ⟨by omega, by omega⟩
  have hk2 : NsOk [(t, 2), (d, 2), (h.sum, 4), (fulN false h.pk, 4), (fulN false h.sz, 4)] := by
    intro p hp
    unfold two64 at *
    simp [fulN] at hp
    rcases hp with rfl | rfl | rfl | rfl | rfl <;> exact ⟨by omega, by omega⟩
  have hk3 : NsOk [(h.nm.length, 2), (behN false, 2)] := by
    intro p hp
    unfold two64
    simp [behN] at hp
    rcases hp with rfl | rfl <;> exact ⟨by omega, by omega⟩
  have hk4 : NsOk [(1, 2), (16, 2), (h.sz, 8), (h.pk, 8)] := by
    intro p hp
    unfold two64 at *
    simp at hp
    rcases hp with rfl | rfl | rfl | rfl <;> exact ⟨by omega, by omega⟩
  have K1 := Lib.hid hk1
  have K2 := Lib.hid hk2
  have K3 := Lib.hid hk3
  have K4 := Lib.hid hk4
  clear hB hk1 hk2 hk3 hk4 hZ hg hw
  generalize hdB h d t = X at *
  obtain ⟨mm, ⟨y, mo, dd, hh, mi, s⟩, sum, p, z, nm⟩ := h
  dsimp only at hm hn hpk hsz hsum HB K1 K2 K3 K4
  subst hm
  have hnS := Lib.hid (S_size nm)
  generalize hnl : nm.length = nl at *
  have HNL := Lib.hid hnl
  clear hnl
  unfold hdV hdC at *
  dsimp only at *
  have u1 : IntKind.u64.wrap (m : Int) = (m : Int) := by show (m : Int) % 18446744073709551616 = _; omega
  have u2 : IntKind.u64.wrap (t : Int) = (t : Int) := by show (t : Int) % 18446744073709551616 = _; omega
  have u3 : IntKind.u64.wrap (d : Int) = (d : Int) := by show (d : Int) % 18446744073709551616 = _; omega
  have u4 : IntKind.u64.wrap (sum : Int) = (sum : Int) := by show (sum : Int) % 18446744073709551616 = _; omega
  have u5 : IntKind.u64.wrap ((S nm).size : Int) = (nl : Int) := by rw [hnS.out]; show (nl : Int) % 18446744073709551616 = _; omega
  have hK := Blk.new w 27 #[.int .i64 (m : Nat), .int .i64 y, .int .i64 mo, .int .i64 dd, .int .i64 hh, .int .i64 mi, .int .i64 s, .int .u32 sum, .int .u64 p, .int .u64 z, .string (S nm)]
  have hb0 := (Below.refl w.heap.size w).alloc (Nat.le_refl _) (.cells #[.int .i64 (m : Nat), .int .i64 y, .int .i64 mo, .int .i64 dd, .int .i64 hh, .int .i64 mi, .int .i64 s, .int .u32 sum, .int .u64 p, .int .u64 z, .string (S nm)] 27)
  have HK := Lib.hid hK
  have HB0 := Lib.hid hb0
  clear hK hb0
  go_enter Tryd.func21, Tryd.ntmps21
  go_wp2
  go_quiet (fail)
  have hlt0 := HK.out.lt
  have HK0 : Hid (Blk ((w.alloc (.cells #[.int .i64 (m : Nat), .int .i64 y, .int .i64 mo, .int .i64 dd, .int .i64 hh, .int .i64 mi, .int .i64 s, .int .u32 sum, .int .u64 p, .int .u64 z, .string (S nm)] 27)).drewN nq) w.heap.size 27 #[.int .i64 (m : Nat), .int .i64 y, .int .i64 mo, .int .i64 dd, .int .i64 hh, .int .i64 mi, .int .i64 s, .int .u32 sum, .int .u64 p, .int .u64 z, .string (S nm)]) := HK.out
  have HB1 := Lib.hid (below_drewN HB0.out nq)
  clear HK HB0
  generalize (w.alloc (.cells #[.int .i64 (m : Nat), .int .i64 y, .int .i64 mo, .int .i64 dd, .int .i64 hh, .int .i64 mi, .int .i64 s, .int .u32 sum, .int .u64 p, .int .u64 z, .string (S nm)] 27)).drewN nq = W0 at *
  have q1 := ld_hd HK0.out rfl
  go_wp2_with (with_reducible refine wpList_load_var _ _ (by with_unfolding_all rfl) q1 ?_)
  refine (HG.out _).mono ?_
  rintro e W1 ⟨rfl, hb1⟩
  have HK1 := Lib.hid (HK0.out.below HK0.out.lt hb1)
  have HB2 := Lib.hid (HB1.out.trans (hb1.mono HB1.out.size))
  clear HK0 HB1 hb1 q1
  have q1 := ld_hd HK1.out rfl
  go_wp2_with (with_reducible refine wpList_load_var _ _ (by with_unfolding_all rfl) q1 ?_)
  refine (HS.out _).mono ?_
  rintro e W2 ⟨rfl, hb2⟩
  have HK2 := Lib.hid (HK1.out.below HK1.out.lt hb2)
  have HB3 := Lib.hid (HB2.out.trans (hb2.mono HB2.out.size))
  have hs2 : w.heap.size + 1 ≤ W2.heap.size := HK2.out.lt
  clear HK1 HB2 hb2 q1
  have SZ : ∀ w3, w3.ownsRow (w.heap.size + 1) 5 1 (.slice (some ⟨W2.heap.size, 0, none⟩) 0 Z) 0 [] → W2.grownBy w3 none → LaySt w (w3.alloc (.cells #[.slice (some ⟨W2.heap.size, 0, none⟩) 0 Z] 29)) 27 #[.int .i64 (m : Nat), .int .i64 y, .int .i64 mo, .int .i64 dd, .int .i64 hh, .int .i64 mi, .int .i64 s, .int .u32 sum, .int .u64 p, .int .u64 z, .string (S nm)] w3.heap.size (some ⟨W2.heap.size, 0, none⟩) 0 Z [] := by
    intro w3 hown3 hg3
    have hb3 : Below W2.heap.size W2 w3 := (Below.refl _ _).grown hg3 (Nat.le_refl _) (fun k h => by cases h)
    have hb4 := (Below.refl w3.heap.size w3).alloc (Nat.le_refl _) (.cells #[.slice (some ⟨W2.heap.size, 0, none⟩) 0 Z] 29)
    have hs3 := hb3.size
    refine ⟨(HK2.out.below HK2.out.lt hb3).below (by omega) hb4, ⟨Blk.new _ _ _, own_below hown3 hb4, fun g hg => ?_, by omega⟩, HB3.out.trans ((hb3.trans (hb4.mono hs3)).mono HB3.out.size)⟩
    have := (hown3.lt g hg).2
    omega
  have HSZ := Lib.hid SZ
  clear SZ
  go_wp2_with (at_make; refine wpList_make_own _ rfl _ _ 29 rfl (w.heap.size + 1) 5 i0 (.int .u8 0) 1 Tryd.underlying29 hi hz0 hz1 _ _ _ Z rfl rfl rfl (by rw [hz2]; omega) (by unfold maxLen; omega) hs2 ?_; intro w3 hown3 hg3; have S0 := Lib.hid (HSZ.out w3 hown3 hg3); have d0 := (S0.out.box.cell 0).trans rfl)
  refine (S0.out.put (by omega) _ K1.out 4 rfl (by omega) _ _ rfl _ _ (by simp)).mono ?_
  rintro e W4 ⟨rfl, V4, c4, s4⟩
  have S4 : Hid (LaySt w W4 _ _ _ V4 10 c4 _) := s4
  clear s4 d0 S0 hown3 hg3 HSZ HK2 HB3 hs2
  have d7 := (S4.out.box.cell 7).trans rfl
  go_wp2_with fail
  refine (S4.out.put (by omega) _ K2.out 5 rfl (by omega) _ _ rfl _ _ (by simp)).mono ?_
  rintro e W5 ⟨rfl, V5, c5, s5⟩
  have S5 : Hid (LaySt w W5 _ _ _ V5 26 c5 _) := s5
  clear s5 d7 S4
  have d10 := (S5.out.box.cell 10).trans rfl
  go_wp2_with fail
  refine (S5.out.put (by omega) _ K3.out 2 rfl (by omega) _ _ rfl _ _ (by simp)).mono ?_
  rintro e W6 ⟨rfl, V6, c6, s6⟩
  have S6 : Hid (LaySt w W6 _ _ _ V6 30 c6 _) := s6
  clear s6 d10 S5
  have d10 := (S6.out.box.cell 10).trans rfl
  have x0 := (S6.out.bx.blk.cell 0).trans rfl
  have hq6 := S6.out.bx.lt
  have hb6 := S6.out.box.lt
  go_wp2_with (first | (with_reducible refine wpList_load_var _ _ (by with_unfolding_all rfl) q7 ?_) | (
    refine wpList_append_str i0 hi hz0 hz1 hz2 (by rfl) (.tmp 61) (.tmp 63) (by rfl) (w.heap.size + 1) (.slice V6 30 c6) 30 _ (by simp [go_sem]) S6.out.bx.own nm (by simp [go_sem]) (by have := HNL.out; omega) (by omega) ?_
    intro v7 w7 hL
    obtain ⟨A7, c7, rfl, hown7, hg7, hnw7⟩ := hL
    rw [HNL.out] at hown7 hnw7
    rw [← cs_append] at hown7
    have b7 := S6.out.bx.blk.kept hg7 ⟨hq6, fun e => S6.out.bx.ne _ e rfl⟩
    have f7 := b7.frozen 0
    have z7 : w7.cell? ⟨w3.heap.size, 0, none⟩ = some (.slice V6 30 c6) := (b7.cell 0).trans rfl
    have S7 := Lib.hid (S6.out.str hown7 hg7 hnw7)
    rw [HNL.out]
    have q7 := ld_hd S7.out.box rfl
    clear hown7 hg7 hnw7 b7))
  refine (HG.out _).mono ?_
  rintro e W8 ⟨rfl, hb8⟩
  have S8 := Lib.hid (S7.out.below hb8)
  clear hb8 S7 q7 S6 z7 f7 x0 d10 hq6 hb6
  have x0 := (S8.out.bx.blk.cell 0).trans rfl
  have HE : Hid ([] ++ nsB [(67324752, 4), (verN false, 2), (2048, 2), (m, 2)] ++ nsB [(t, 2), (d, 2), (sum, 4), (fulN false p, 4), (fulN false z, 4)] ++ nsB [(nl, 2), (behN false, 2)] ++ nmF nm = X) := (List.append_nil _).symm.trans HB.out
  go_wp2
  go_ret
  exact ⟨_, _, _, rfl, by rw [← HE.out]; exact own_base2 S8.out.bx.own (by omega), S8.out.bel⟩

set_option maxHeartbeats 1000000 in
theorem lay_true (h : Hd) (hg : grt h = true) (m d t : Nat) (hm : h.m = (m : Int)) (hm2 : m < 65536) (hd : d < 65536) (ht : t < 65536) (hw : HdW h) (hn : h.nm.length ≤ 65535) (w : World) :
    Calls Tryd.prog 21 #[hdV h, .int .u16 d, .int .u16 t] w fun e w' => ∃ A N c, e = .returned (.slice A N c) ∧ w'.ownsRow w.heap.size 5 1 (.slice A N c) N (cs (hdB h d t)) ∧ Below w.heap.size w w' := by
  obtain ⟨i0, hi, hz0, hz1, hz2⟩ := info_parts info_u8
  have HG := Lib.hid (isGreat_c h)
  rw [hg] at HG
  have HS := Lib.hid (SizeL_c h (by omega))
  obtain ⟨Z, hZ, hZ2⟩ : ∃ Z : Nat, szH h = (Z : Int) ∧ Z ≤ 100000 := ⟨(szH h).toNat, by unfold szH; split <;> omega, by unfold szH; split <;> omega⟩
  rw [hZ] at HS
  have hpk := hw.pk
  have hsz := hw.sz
  have hsum := hw.sum
  have hB : hdB h d t = nsB [(67324752, 4), (verN true, 2), (2048, 2), (m, 2)] ++ (nsB [(t, 2), (d, 2), (h.sum, 4), (fulN true h.pk, 4), (fulN true h.sz, 4)] ++ (nsB [(h.nm.length, 2), (behN true, 2)] ++ (nmF h.nm ++ nsB [(1, 2), (16, 2), (h.sz, 8), (h.pk, 8)]))) := by
    unfold hdB hdT hd1 hd2 hd3 hd4
    rw [hg, hm]
    simp
  have HB := Lib.hid (laid_put hB)
  have hk1 : NsOk [(67324752, 4), (verN true, 2), (2048, 2), (m, 2)] := by
    intro p hp
    unfold two64
    simp [verN] at hp
    rcases hp with rfl | rfl | rfl | rfl <;> exact ⟨by omega, by omega⟩
  have hk2 : NsOk [(t, 2), (d, 2), (h.sum, 4), (fulN true h.pk, 4), (fulN true h.sz, 4)] := by
    intro p hp
    unfold two64 at *
    simp [fulN] at hp
    rcases hp with rfl | rfl | rfl | rfl <;> exact ⟨by omega, by omega⟩
  have hk3 : NsOk [(h.nm.length, 2), (behN true, 2)] := by
    intro p hp
    unfold two64
    simp [behN] at hp
    rcases hp with rfl | rfl <;> exact ⟨by omega, by omega⟩
  have hk4 : NsOk [(1, 2), (16, 2), (h.sz, 8), (h.pk, 8)] := by
    intro p hp
    unfold two64 at *
    simp at hp
    rcases hp with rfl | rfl | rfl | rfl <;> exact ⟨by omega, by omega⟩
  have K1 := Lib.hid hk1
  have K2 := Lib.hid hk2
  have K3 := Lib.hid hk3
  have K4 := Lib.hid hk4
  clear hB hk1 hk2 hk3 hk4 hZ hg hw
  generalize hdB h d t = X at *
  obtain ⟨mm, ⟨y, mo, dd, hh, mi, s⟩, sum, p, z, nm⟩ := h
  dsimp only at hm hn hpk hsz hsum HB K1 K2 K3 K4
  subst hm
  have hnS := Lib.hid (S_size nm)
  generalize hnl : nm.length = nl at *
  have HNL := Lib.hid hnl
  clear hnl
  unfold hdV hdC at *
  dsimp only at *
  have u1 : IntKind.u64.wrap (m : Int) = (m : Int) := by show (m : Int) % 18446744073709551616 = _; omega
  have u2 : IntKind.u64.wrap (t : Int) = (t : Int) := by show (t : Int) % 18446744073709551616 = _; omega
  have u3 : IntKind.u64.wrap (d : Int) = (d : Int) := by show (d : Int) % 18446744073709551616 = _; omega
  have u4 : IntKind.u64.wrap (sum : Int) = (sum : Int) := by show (sum : Int) % 18446744073709551616 = _; omega
  have u5 : IntKind.u64.wrap ((S nm).size : Int) = (nl : Int) := by rw [hnS.out]; show (nl : Int) % 18446744073709551616 = _; omega
  have hK := Blk.new w 27 #[.int .i64 (m : Nat), .int .i64 y, .int .i64 mo, .int .i64 dd, .int .i64 hh, .int .i64 mi, .int .i64 s, .int .u32 sum, .int .u64 p, .int .u64 z, .string (S nm)]
  have hb0 := (Below.refl w.heap.size w).alloc (Nat.le_refl _) (.cells #[.int .i64 (m : Nat), .int .i64 y, .int .i64 mo, .int .i64 dd, .int .i64 hh, .int .i64 mi, .int .i64 s, .int .u32 sum, .int .u64 p, .int .u64 z, .string (S nm)] 27)
  have HK := Lib.hid hK
  have HB0 := Lib.hid hb0
  clear hK hb0
  go_enter Tryd.func21, Tryd.ntmps21
  go_wp2
  go_quiet (fail)
  have hlt0 := HK.out.lt
  have HK0 : Hid (Blk ((w.alloc (.cells #[.int .i64 (m : Nat), .int .i64 y, .int .i64 mo, .int .i64 dd, .int .i64 hh, .int .i64 mi, .int .i64 s, .int .u32 sum, .int .u64 p, .int .u64 z, .string (S nm)] 27)).drewN nq) w.heap.size 27 #[.int .i64 (m : Nat), .int .i64 y, .int .i64 mo, .int .i64 dd, .int .i64 hh, .int .i64 mi, .int .i64 s, .int .u32 sum, .int .u64 p, .int .u64 z, .string (S nm)]) := HK.out
  have HB1 := Lib.hid (below_drewN HB0.out nq)
  clear HK HB0
  generalize (w.alloc (.cells #[.int .i64 (m : Nat), .int .i64 y, .int .i64 mo, .int .i64 dd, .int .i64 hh, .int .i64 mi, .int .i64 s, .int .u32 sum, .int .u64 p, .int .u64 z, .string (S nm)] 27)).drewN nq = W0 at *
  have q1 := ld_hd HK0.out rfl
  go_wp2_with (with_reducible refine wpList_load_var _ _ (by with_unfolding_all rfl) q1 ?_)
  refine (HG.out _).mono ?_
  rintro e W1 ⟨rfl, hb1⟩
  have HK1 := Lib.hid (HK0.out.below HK0.out.lt hb1)
  have HB2 := Lib.hid (HB1.out.trans (hb1.mono HB1.out.size))
  clear HK0 HB1 hb1 q1
  have q1 := ld_hd HK1.out rfl
  go_wp2_with (with_reducible refine wpList_load_var _ _ (by with_unfolding_all rfl) q1 ?_)
  refine (HS.out _).mono ?_
  rintro e W2 ⟨rfl, hb2⟩
  have HK2 := Lib.hid (HK1.out.below HK1.out.lt hb2)
  have HB3 := Lib.hid (HB2.out.trans (hb2.mono HB2.out.size))
  have hs2 : w.heap.size + 1 ≤ W2.heap.size := HK2.out.lt
  clear HK1 HB2 hb2 q1
  have SZ : ∀ w3, w3.ownsRow (w.heap.size + 1) 5 1 (.slice (some ⟨W2.heap.size, 0, none⟩) 0 Z) 0 [] → W2.grownBy w3 none → LaySt w (w3.alloc (.cells #[.slice (some ⟨W2.heap.size, 0, none⟩) 0 Z] 29)) 27 #[.int .i64 (m : Nat), .int .i64 y, .int .i64 mo, .int .i64 dd, .int .i64 hh, .int .i64 mi, .int .i64 s, .int .u32 sum, .int .u64 p, .int .u64 z, .string (S nm)] w3.heap.size (some ⟨W2.heap.size, 0, none⟩) 0 Z [] := by
    intro w3 hown3 hg3
    have hb3 : Below W2.heap.size W2 w3 := (Below.refl _ _).grown hg3 (Nat.le_refl _) (fun k h => by cases h)
    have hb4 := (Below.refl w3.heap.size w3).alloc (Nat.le_refl _) (.cells #[.slice (some ⟨W2.heap.size, 0, none⟩) 0 Z] 29)
    have hs3 := hb3.size
    refine ⟨(HK2.out.below HK2.out.lt hb3).below (by omega) hb4, ⟨Blk.new _ _ _, own_below hown3 hb4, fun g hg => ?_, by omega⟩, HB3.out.trans ((hb3.trans (hb4.mono hs3)).mono HB3.out.size)⟩
    have := (hown3.lt g hg).2
    omega
  have HSZ := Lib.hid SZ
  clear SZ
  go_wp2_with (at_make; refine wpList_make_own _ rfl _ _ 29 rfl (w.heap.size + 1) 5 i0 (.int .u8 0) 1 Tryd.underlying29 hi hz0 hz1 _ _ _ Z rfl rfl rfl (by rw [hz2]; omega) (by unfold maxLen; omega) hs2 ?_; intro w3 hown3 hg3; have S0 := Lib.hid (HSZ.out w3 hown3 hg3); have d0 := (S0.out.box.cell 0).trans rfl)
  refine (S0.out.put (by omega) _ K1.out 4 rfl (by omega) _ _ rfl _ _ (by simp)).mono ?_
  rintro e W4 ⟨rfl, V4, c4, s4⟩
  have S4 : Hid (LaySt w W4 _ _ _ V4 10 c4 _) := s4
  clear s4 d0 S0 hown3 hg3 HSZ HK2 HB3 hs2
  have d7 := (S4.out.box.cell 7).trans rfl
  go_wp2_with fail
  refine (S4.out.put (by omega) _ K2.out 5 rfl (by omega) _ _ rfl _ _ (by simp)).mono ?_
  rintro e W5 ⟨rfl, V5, c5, s5⟩
  have S5 : Hid (LaySt w W5 _ _ _ V5 26 c5 _) := s5
  clear s5 d7 S4
  have d10 := (S5.out.box.cell 10).trans rfl
  go_wp2_with fail
  refine (S5.out.put (by omega) _ K3.out 2 rfl (by omega) _ _ rfl _ _ (by simp)).mono ?_
  rintro e W6 ⟨rfl, V6, c6, s6⟩
  have S6 : Hid (LaySt w W6 _ _ _ V6 30 c6 _) := s6
  clear s6 d10 S5
  have d10 := (S6.out.box.cell 10).trans rfl
  have x0 := (S6.out.bx.blk.cell 0).trans rfl
  have hq6 := S6.out.bx.lt
  have hb6 := S6.out.box.lt
  go_wp2_with (first | (with_reducible refine wpList_load_var _ _ (by with_unfolding_all rfl) q7 ?_) | (
    refine wpList_append_str i0 hi hz0 hz1 hz2 (by rfl) (.tmp 61) (.tmp 63) (by rfl) (w.heap.size + 1) (.slice V6 30 c6) 30 _ (by simp [go_sem]) S6.out.bx.own nm (by simp [go_sem]) (by have := HNL.out; omega) (by omega) ?_
    intro v7 w7 hL
    obtain ⟨A7, c7, rfl, hown7, hg7, hnw7⟩ := hL
    rw [HNL.out] at hown7 hnw7
    rw [← cs_append] at hown7
    have b7 := S6.out.bx.blk.kept hg7 ⟨hq6, fun e => S6.out.bx.ne _ e rfl⟩
    have f7 := b7.frozen 0
    have z7 : w7.cell? ⟨w3.heap.size, 0, none⟩ = some (.slice V6 30 c6) := (b7.cell 0).trans rfl
    have S7 := Lib.hid (S6.out.str hown7 hg7 hnw7)
    rw [HNL.out]
    have q7 := ld_hd S7.out.box rfl
    clear hown7 hg7 hnw7 b7))
  refine (HG.out _).mono ?_
  rintro e W8 ⟨rfl, hb8⟩
  have S8 := Lib.hid (S7.out.below hb8)
  clear hb8 S7 q7 S6 z7 f7 x0 d10 hq6 hb6
  have d8 := (S8.out.box.cell 8).trans rfl
  have d9 := (S8.out.box.cell 9).trans rfl
  go_wp2_with fail
  refine (S8.out.put (by omega) _ K4.out 4 rfl (by omega) _ _ rfl _ _ (by simp)).mono ?_
  rintro e W9 ⟨rfl, V9, c9, s9⟩
  have S9 := Lib.hid s9
  clear s9 S8 d8 d9
  have x0 := (S9.out.bx.blk.cell 0).trans rfl
  go_wp2
  go_ret
  exact ⟨_, _, _, rfl, by rw [← HB.out]; exact own_base2 S9.out.bx.own (by omega), S9.out.bel⟩

end Go.Proofs.YtcclhcbjolelcaaDoor
