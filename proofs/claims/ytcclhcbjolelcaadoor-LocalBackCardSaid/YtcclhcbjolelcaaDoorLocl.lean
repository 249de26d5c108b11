/-
  LOCAL HEADERS: the document's bytes of a header (WRITTEN by wip/gen18l.py). No conditions (but for the length of a name, and a method of two bytes).
-/
import Derived.Test.YtcclhcbjolelcaaDoorLock
namespace Go.Proofs.YtcclhcbjolelcaaDoor
open Go.RowKit
set_option maxRecDepth 100000
set_option linter.unusedVariables false
set_option linter.unusedSimpArgs false

def P11 (g : Bool) (m t d sum p z nl : Nat) : List (Nat × Nat) := [(67324752, 4), (verN g, 2), (2048, 2), (m, 2), (t, 2), (d, 2), (sum, 4), (fulN g p, 4), (fulN g z, 4), (nl, 2), (behN g, 2)]

set_option maxHeartbeats 4000000 in
theorem Rbytes_false (h : Hd) (hg : grt h = false) (m d t : Nat) (D T : Int) (hm : h.m = (m : Int)) (hm2 : m < 65536) (hD : IntKind.u64.wrap D = (d : Int)) (hT : IntKind.u64.wrap T = (t : Int)) (hd : d < two64) (ht : t < two64) (hw : HdW h) (hn : h.nm.length ≤ 65535) (w : World)
    (hP : ∀ w, Calls Tryd.prog 38 #[stV h.t] w fun e w' => e = .returned (.tuple #[.int .i64 D, .int .i64 T]) ∧ Below w.heap.size w w') :
    Calls Tryd.prog 23 #[hdV h] w fun e w' => ∃ A N c, e = .returned (.slice A N c) ∧ w'.ownsRow w.heap.size 5 1 (.slice A N c) N (cs (hdB h d t)) ∧ Below w.heap.size w w' := by
  have HG := Lib.hid (RGreat_c h)
  rw [hg] at HG
  have HP := Lib.hid hP
  have hpk := hw.pk
  have hsz := hw.sz
  have hsum := hw.sum
  have hB : hdB h d t = nsB (P11 false m t d h.sum h.pk h.sz h.nm.length) ++ (nmF h.nm ++ []) := by
    unfold hdB hdT hd1 hd2 hd3 hd4 P11
    rw [hg, hm]
    simp [nsB, List.append_assoc]
  have HB := Lib.hid hB
  have hk1 : NsOk (P11 false m t d h.sum h.pk h.sz h.nm.length) := by
    intro q hq
    unfold two64 at *
    simp [P11, verN, fulN, behN] at hq
    rcases hq with rfl | rfl | rfl | rfl | rfl | rfl | rfl | rfl | rfl | rfl | rfl <;> exact ⟨by omega, by omega⟩
  have hk4 : NsOk [(1, 2), (16, 2), (h.sz, 8), (h.pk, 8)] := by
    intro p hp
    unfold two64 at *
    simp at hp
    rcases hp with rfl | rfl | rfl | rfl <;> exact ⟨by omega, by omega⟩
  have K1 := Lib.hid hk1
  have K4 := Lib.hid hk4
  clear hB hk1 hk4 hg hw hP
  generalize hdB h d t = X at *
  obtain ⟨mm, ⟨y, mo, dd, hh, mi, s⟩, sum, p, z, nm⟩ := h
  dsimp only at hm hn hpk hsz hsum HB K1 K4 HP
  subst hm
  have hnS := Lib.hid (S_size nm)
  generalize hnl : nm.length = nl at *
  have HNL := Lib.hid hnl
  clear hnl
  unfold hdV hdC at *
  unfold stV at HP
  dsimp only at *
  have u1 : IntKind.u64.wrap (m : Int) = (m : Int) := by show (m : Int) % 18446744073709551616 = _; omega
  have u4 : IntKind.u64.wrap (sum : Int) = (sum : Int) := by show (sum : Int) % 18446744073709551616 = _; omega
  have u5 : IntKind.u64.wrap ((S nm).size : Int) = (nl : Int) := by rw [hnS.out]; show (nl : Int) % 18446744073709551616 = _; omega
  have HK := Lib.hid (Blk.new w 35 #[.int .i64 (m : Nat), .int .i64 y, .int .i64 mo, .int .i64 dd, .int .i64 hh, .int .i64 mi, .int .i64 s, .int .u32 sum, .int .u64 p, .int .u64 z, .string (S nm)])
  have HB0 := Lib.hid ((Below.refl w.heap.size w).alloc (Nat.le_refl _) (.cells #[.int .i64 (m : Nat), .int .i64 y, .int .i64 mo, .int .i64 dd, .int .i64 hh, .int .i64 mi, .int .i64 s, .int .u32 sum, .int .u64 p, .int .u64 z, .string (S nm)] 35))
  go_enter Tryd.func23, Tryd.ntmps23
  go_wp2_with fail
  refine (HP.out _).mono ?_
  rintro e W1 ⟨rfl, hb1⟩
  have HK1 := Lib.hid (HK.out.below HK.out.lt hb1)
  have HB1 := Lib.hid (HB0.out.trans (hb1.mono HB0.out.size))
  clear HK HB0 hb1
  have c0 := (HK1.out.cell 0).trans rfl
  have c7 := (HK1.out.cell 7).trans rfl
  have c8 := (HK1.out.cell 8).trans rfl
  have c9 := (HK1.out.cell 9).trans rfl
  have c10 := (HK1.out.cell 10).trans rfl
  have hl1 := HK1.out.lt
  have q1 := ld_hdR HK1.out rfl
  have HN1 := Lib.hid (Blk.new W1 25 #[.int .u64 67324752, .int .u64 20, .int .u64 2048, .int .u64 (m : Nat), .int .u64 (t : Nat), .int .u64 (d : Nat), .int .u64 (sum : Nat), .int .u64 (p : Nat), .int .u64 (z : Nat), .int .u64 (nl : Nat), .int .u64 0])
  have HQ : Hid (Blk ((W1.alloc (.cells #[.int .u64 67324752, .int .u64 20, .int .u64 2048, .int .u64 (m : Nat), .int .u64 (t : Nat), .int .u64 (d : Nat), .int .u64 (sum : Nat), .int .u64 (p : Nat), .int .u64 (z : Nat), .int .u64 (nl : Nat), .int .u64 0] 25)).alloc (.cells #[] 5)) w.heap.size 35 #[.int .i64 (m : Nat), .int .i64 y, .int .i64 mo, .int .i64 dd, .int .i64 hh, .int .i64 mi, .int .i64 s, .int .u32 sum, .int .u64 p, .int .u64 z, .string (S nm)]) := (HK1.out.below hl1 ((Below.refl _ _).alloc (Nat.le_refl _) _)).below (by simp; omega) ((Below.refl _ _).alloc (Nat.le_refl _) _)
  have q2 := ld_hdR HQ.out rfl
  go_wp2_with (with_reducible refine wpList_load_var _ _ (by with_unfolding_all rfl) q2 ?_)
  refine (HG.out _).mono ?_
  rintro e W2 ⟨rfl, hb2⟩
  have HQ2 := Lib.hid (HQ.out.below HQ.out.lt hb2)
  have HN2 := Lib.hid ((HN1.out.below HN1.out.lt ((Below.refl _ _).alloc (Nat.le_refl _) (.cells #[] 5))).below (by simp; omega) hb2)
  have HB2 := Lib.hid (((HB1.out.alloc HB1.out.size (.cells #[.int .u64 67324752, .int .u64 20, .int .u64 2048, .int .u64 (m : Nat), .int .u64 (t : Nat), .int .u64 (d : Nat), .int .u64 (sum : Nat), .int .u64 (p : Nat), .int .u64 (z : Nat), .int .u64 (nl : Nat), .int .u64 0] 25)).alloc (by simp; have := HB1.out.size; omega) (.cells #[] 5)).trans (hb2.mono (by simp; have := HB1.out.size; omega)))
  have hl2 := HQ2.out.lt
  have hl3 := HN2.out.lt
  have hcv : ∀ W, (convert 9 29 (.string (S nm))).run Tryd.prog W = .ok (.slice (some ⟨W.heap.size, 0, none⟩) nl (sbC nm W)) (sbW nm W) := by intro W; rw [← HNL.out]; exact sb_run nm W
  clear HQ HK1 HB1 HN1 hb2 c0 c7 c8 c9 c10 hl1 q1 q2
  have c10 := (HQ2.out.cell 10).trans rfl
  have hsz := sb_size nm
  generalize W1.heap.size = g2 at *
  go_wp2_with fail

  have hN11 : ∀ W', Below W2.heap.size W2 W' → IRow W' (some ⟨g2, 0, none⟩) 11 .u64 ((P11 false m t d sum p z nl).map fun q => (q.1 : Int)) := fun W' hb => irow_blk (HN2.out.below hl3 hb) _ 11 rfl rfl (by unfold maxLen; omega) (by
    intro x hx
    obtain ⟨q, hq, rfl⟩ := List.mem_map.1 hx
    exact wfU64 _ (K1.out q hq).1)
  have hI11 : ∀ (W' W : World) (g : Nat), g = W.heap.size → Below (W.alloc (.cells #[.int .i64 4, .int .i64 2, .int .i64 2, .int .i64 2, .int .i64 2, .int .i64 2, .int .i64 4, .int .i64 4, .int .i64 4, .int .i64 2, .int .i64 2] 3)).heap.size (W.alloc (.cells #[.int .i64 4, .int .i64 2, .int .i64 2, .int .i64 2, .int .i64 2, .int .i64 2, .int .i64 4, .int .i64 4, .int .i64 4, .int .i64 2, .int .i64 2] 3)) W' → IRow W' (some ⟨g, 0, none⟩) 11 .i64 ((P11 false m t d sum p z nl).map fun q => (q.2 : Int)) := by
    rintro W' W g rfl hb
    exact irow_blk ((Blk.new W _ _).below (by simp) hb) _ 11 rfl rfl (by unfold maxLen; omega) (by
      intro x hx
      obtain ⟨q, hq, rfl⟩ := List.mem_map.1 hx
      exact wfI _ (by have := (K1.out q hq).2; omega))
  have HSB : Hid (∀ (W W' : World) (g : Nat), g = W.heap.size → Below (sbW nm W).heap.size (sbW nm W) W' → RowIn W' (some ⟨g, 0, none⟩) nl (sbC nm W) (nmF nm)) := by
    rintro W W' g rfl hb
    rw [← HNL.out]
    exact (sb_row nm W (by have := HNL.out; omega)).below hb
  have HN11 := Lib.hid hN11
  have HI11 := Lib.hid hI11
  clear hN11 hI11

  go_region_law (first
    | (go_simp
       go_at_call 39
       refine (RNumbers_c (some ⟨g2, 0, none⟩) 11 11 _ 11 11 _ K1.out (by omega) _ (HN11.out _ (by first | exact Below.refl _ _ | (repeat' (first | exact Below.refl _ _ | refine below_drewL ?_ | refine below_drewN ?_ _ | refine below_sbW _ ?_ ?_ | refine Below.alloc ?_ ?_ _ | (simp [hsz]; done) | (simp [hsz]; omega))))) (by first | ((refine HI11.out _ W2 _ ?_ ?_) <;> (first | exact Below.refl _ _ | (simp [hsz]; done) | ((repeat' (first | exact Below.refl _ _ | refine below_drewL ?_ | refine below_drewN ?_ _ | refine below_sbW _ ?_ ?_ | refine Below.alloc ?_ ?_ _ | (simp [hsz]; done) | (simp [hsz]; omega))); done))) | ((refine HI11.out _ (sbW nm W2.drew) _ ?_ ?_) <;> (first | exact Below.refl _ _ | (simp [hsz]; done) | ((repeat' (first | exact Below.refl _ _ | refine below_drewL ?_ | refine below_drewN ?_ _ | refine below_sbW _ ?_ ?_ | refine Below.alloc ?_ ?_ _ | (simp [hsz]; done) | (simp [hsz]; omega))); done))))).mono ?_
       rintro e w3 ⟨D3, c3, N3, rfl, hown3, hN3, hb3⟩
       have hN3b : N3 ≤ 88 := by have := nsN_le K1.out; rw [← hN3] at this; simpa [P11] using this
       clear hN3
       have HB3 : Below W2.heap.size W2 w3 := Below.then_ (by first | exact Below.refl _ _ | (repeat' (first | exact Below.refl _ _ | refine below_drewL ?_ | refine below_drewN ?_ _ | refine below_sbW _ ?_ ?_ | refine Below.alloc ?_ ?_ _ | (simp [hsz]; done) | (simp [hsz]; omega)))) hb3
       have c3x := (HB3.cell (p := ⟨w.heap.size, 10, none⟩) (by exact hl2)).trans c10)
    | (go_simp
       go_at_call 40
       refine (Join3_c (by first | exact (own_in hown3).below (Below.refl _ _) | exact (own_in hown3).below (sb_below nm w3)) (HSB.out _ _ _ (by simp [hsz]) (by first | exact Below.refl _ _ | exact hb3 | exact Below.then_ ((Below.refl _ _).alloc (Nat.le_refl _) _) hb3)) (show RowIn _ (some ⟨g2 + 1, 0, none⟩) 0 0 [] from ⟨Row.nil _ _, Nat.le_refl _, by unfold maxLen; omega⟩) (by omega) (by omega) (by omega) _ _ (by simp [hsz])).mono ?_
       rintro e w4 ⟨E4, N4, c4, rfl, hown4, hN4, hb4⟩
       clear hN4))
  all_goals
    have HE : Hid (cs (nsB (P11 false m t d sum p z nl) ++ (nmF nm ++ [])) = cs X) := congrArg cs HB.out.symm
    rw [HE.out] at hown4
    go_wp2
    go_ret
    exact ⟨_, _, _, rfl, own_base2 hown4 (by have h5 := HB3.size; have h6 := HB2.out.size; first | omega | (simp [hsz]; omega)), HB2.out.trans ((Below.then_ HB3 (by first | exact hb4 | exact Below.then_ (sb_below nm w3) hb4)).mono HB2.out.size)⟩

set_option maxHeartbeats 4000000 in
theorem Rbytes_true (h : Hd) (hg : grt h = true) (m d t : Nat) (D T : Int) (hm : h.m = (m : Int)) (hm2 : m < 65536) (hD : IntKind.u64.wrap D = (d : Int)) (hT : IntKind.u64.wrap T = (t : Int)) (hd : d < two64) (ht : t < two64) (hw : HdW h) (hn : h.nm.length ≤ 65535) (w : World)
    (hP : ∀ w, Calls Tryd.prog 38 #[stV h.t] w fun e w' => e = .returned (.tuple #[.int .i64 D, .int .i64 T]) ∧ Below w.heap.size w w') :
    Calls Tryd.prog 23 #[hdV h] w fun e w' => ∃ A N c, e = .returned (.slice A N c) ∧ w'.ownsRow w.heap.size 5 1 (.slice A N c) N (cs (hdB h d t)) ∧ Below w.heap.size w w' := by
  have HG := Lib.hid (RGreat_c h)
  rw [hg] at HG
  have HP := Lib.hid hP
  have hpk := hw.pk
  have hsz := hw.sz
  have hsum := hw.sum
  have hB : hdB h d t = nsB (P11 true m t d h.sum h.pk h.sz h.nm.length) ++ (nmF h.nm ++ nsB [(1, 2), (16, 2), (h.sz, 8), (h.pk, 8)]) := by
    unfold hdB hdT hd1 hd2 hd3 hd4 P11
    rw [hg, hm]
    simp [nsB, List.append_assoc]
  have HB := Lib.hid hB
  have hk1 : NsOk (P11 true m t d h.sum h.pk h.sz h.nm.length) := by
    intro q hq
    unfold two64 at *
    simp [P11, verN, fulN, behN] at hq
    rcases hq with rfl | rfl | rfl | rfl | rfl | rfl | rfl | rfl | rfl | rfl <;> exact ⟨by omega, by omega⟩
  have hk4 : NsOk [(1, 2), (16, 2), (h.sz, 8), (h.pk, 8)] := by
    intro p hp
    unfold two64 at *
    simp at hp
    rcases hp with rfl | rfl | rfl | rfl <;> exact ⟨by omega, by omega⟩
  have K1 := Lib.hid hk1
  have K4 := Lib.hid hk4
  clear hB hk1 hk4 hg hw hP
  generalize hdB h d t = X at *
  obtain ⟨mm, ⟨y, mo, dd, hh, mi, s⟩, sum, p, z, nm⟩ := h
  dsimp only at hm hn hpk hsz hsum HB K1 K4 HP
  subst hm
  have hnS := Lib.hid (S_size nm)
  generalize hnl : nm.length = nl at *
  have HNL := Lib.hid hnl
  clear hnl
  unfold hdV hdC at *
  unfold stV at HP
  dsimp only at *
  have u1 : IntKind.u64.wrap (m : Int) = (m : Int) := by show (m : Int) % 18446744073709551616 = _; omega
  have u4 : IntKind.u64.wrap (sum : Int) = (sum : Int) := by show (sum : Int) % 18446744073709551616 = _; omega
  have u5 : IntKind.u64.wrap ((S nm).size : Int) = (nl : Int) := by rw [hnS.out]; show (nl : Int) % 18446744073709551616 = _; omega
  have HK := Lib.hid (Blk.new w 35 #[.int .i64 (m : Nat), .int .i64 y, .int .i64 mo, .int .i64 dd, .int .i64 hh, .int .i64 mi, .int .i64 s, .int .u32 sum, .int .u64 p, .int .u64 z, .string (S nm)])
  have HB0 := Lib.hid ((Below.refl w.heap.size w).alloc (Nat.le_refl _) (.cells #[.int .i64 (m : Nat), .int .i64 y, .int .i64 mo, .int .i64 dd, .int .i64 hh, .int .i64 mi, .int .i64 s, .int .u32 sum, .int .u64 p, .int .u64 z, .string (S nm)] 35))
  go_enter Tryd.func23, Tryd.ntmps23
  go_wp2_with fail
  refine (HP.out _).mono ?_
  rintro e W1 ⟨rfl, hb1⟩
  have HK1 := Lib.hid (HK.out.below HK.out.lt hb1)
  have HB1 := Lib.hid (HB0.out.trans (hb1.mono HB0.out.size))
  clear HK HB0 hb1
  have c0 := (HK1.out.cell 0).trans rfl
  have c7 := (HK1.out.cell 7).trans rfl
  have c8 := (HK1.out.cell 8).trans rfl
  have c9 := (HK1.out.cell 9).trans rfl
  have c10 := (HK1.out.cell 10).trans rfl
  have hl1 := HK1.out.lt
  have q1 := ld_hdR HK1.out rfl
  have HN1 := Lib.hid (Blk.new W1 25 #[.int .u64 67324752, .int .u64 20, .int .u64 2048, .int .u64 (m : Nat), .int .u64 (t : Nat), .int .u64 (d : Nat), .int .u64 (sum : Nat), .int .u64 (p : Nat), .int .u64 (z : Nat), .int .u64 (nl : Nat), .int .u64 0])
  have HQ : Hid (Blk ((W1.alloc (.cells #[.int .u64 67324752, .int .u64 20, .int .u64 2048, .int .u64 (m : Nat), .int .u64 (t : Nat), .int .u64 (d : Nat), .int .u64 (sum : Nat), .int .u64 (p : Nat), .int .u64 (z : Nat), .int .u64 (nl : Nat), .int .u64 0] 25)).alloc (.cells #[] 5)) w.heap.size 35 #[.int .i64 (m : Nat), .int .i64 y, .int .i64 mo, .int .i64 dd, .int .i64 hh, .int .i64 mi, .int .i64 s, .int .u32 sum, .int .u64 p, .int .u64 z, .string (S nm)]) := (HK1.out.below hl1 ((Below.refl _ _).alloc (Nat.le_refl _) _)).below (by simp; omega) ((Below.refl _ _).alloc (Nat.le_refl _) _)
  have q2 := ld_hdR HQ.out rfl
  go_wp2_with (with_reducible refine wpList_load_var _ _ (by with_unfolding_all rfl) q2 ?_)
  refine (HG.out _).mono ?_
  rintro e W0 ⟨rfl, hb2⟩
  have HQ2 := Lib.hid (HQ.out.below HQ.out.lt hb2)
  have HN2 := Lib.hid ((HN1.out.below HN1.out.lt ((Below.refl _ _).alloc (Nat.le_refl _) (.cells #[] 5))).below (by simp; omega) hb2)
  have HB2 := Lib.hid (((HB1.out.alloc HB1.out.size (.cells #[.int .u64 67324752, .int .u64 20, .int .u64 2048, .int .u64 (m : Nat), .int .u64 (t : Nat), .int .u64 (d : Nat), .int .u64 (sum : Nat), .int .u64 (p : Nat), .int .u64 (z : Nat), .int .u64 (nl : Nat), .int .u64 0] 25)).alloc (by simp; have := HB1.out.size; omega) (.cells #[] 5)).trans (hb2.mono (by simp; have := HB1.out.size; omega)))
  have hl2 := HQ2.out.lt
  have hl3 := HN2.out.lt
  have hcv : ∀ W, (convert 9 29 (.string (S nm))).run Tryd.prog W = .ok (.slice (some ⟨W.heap.size, 0, none⟩) nl (sbC nm W)) (sbW nm W) := by intro W; rw [← HNL.out]; exact sb_run nm W
  have hsz := sb_size nm
  clear HQ HK1 HN1 hb2 c0 c7 c8 c9 c10 q1 q2
  have hge := HB1.out.size
  clear HB1
  generalize W1.heap.size = g2 at *
  have o1 := (HN2.out.cell 1).trans rfl
  have f1 := HN2.out.frozen 1
  have B1 := Lib.hid (HN2.out.set_ 1 (.int .u64 45))
  have Q1 := Lib.hid (HQ2.out.setOther (a := ⟨g2, 1, none⟩) (by show w.heap.size ≠ g2; omega) (.int .u64 45))
  have E1 := Lib.hid (HB2.out.trans ((Out.setCell (Out.refl g2 (g2 + 1) W0) 1 (.int .u64 45)).lowAt (show w.heap.size ≤ g2 by omega) hl3))
  have o7 := (B1.out.cell 7).trans rfl
  have f7 := B1.out.frozen 7
  have B2 := Lib.hid (B1.out.set_ 7 (.int .u64 4294967295))
  have Q2 := Lib.hid (Q1.out.setOther (a := ⟨g2, 7, none⟩) (by show w.heap.size ≠ g2; omega) (.int .u64 4294967295))
  have E2 := Lib.hid (E1.out.trans ((Out.setCell (Out.refl g2 (g2 + 1) _) 7 (.int .u64 4294967295)).lowAt (show w.heap.size ≤ g2 by omega) B1.out.lt))
  have o8 := (B2.out.cell 8).trans rfl
  have f8 := B2.out.frozen 8
  have B3 := Lib.hid (B2.out.set_ 8 (.int .u64 4294967295))
  have Q3 := Lib.hid (Q2.out.setOther (a := ⟨g2, 8, none⟩) (by show w.heap.size ≠ g2; omega) (.int .u64 4294967295))
  have E3 := Lib.hid (E2.out.trans ((Out.setCell (Out.refl g2 (g2 + 1) _) 8 (.int .u64 4294967295)).lowAt (show w.heap.size ≤ g2 by omega) B2.out.lt))
  have o10 := (B3.out.cell 10).trans rfl
  have f10 := B3.out.frozen 10
  have B4 := Lib.hid (B3.out.set_ 10 (.int .u64 20))
  have Q4 := Lib.hid (Q3.out.setOther (a := ⟨g2, 10, none⟩) (by show w.heap.size ≠ g2; omega) (.int .u64 20))
  have E4 := Lib.hid (E3.out.trans ((Out.setCell (Out.refl g2 (g2 + 1) _) 10 (.int .u64 20)).lowAt (show w.heap.size ≤ g2 by omega) B3.out.lt))
  have c8 := (Q4.out.cell 8).trans rfl
  have c9 := (Q4.out.cell 9).trans rfl
  obtain ⟨W4, hW4⟩ : ∃ W4, W4 = (((W0.setCell ⟨g2, 1, none⟩ (.int .u64 45)).setCell ⟨g2, 7, none⟩ (.int .u64 4294967295)).setCell ⟨g2, 8, none⟩ (.int .u64 4294967295)).setCell ⟨g2, 10, none⟩ (.int .u64 20) := ⟨_, rfl⟩
  rw [← hW4] at B4 Q4 E4
  have hs4 : W4.heap.size = W0.heap.size := by rw [hW4]; simp
  have HW4 := Lib.hid hW4
  clear hW4 B1 B2 B3 Q1 Q2 Q3 E1 E2 E3
  go_wp2_with fail
  rw [← HW4.out]
  have hU := (Blk.new W4 25 #[.int .u64 1, .int .u64 16, .int .u64 (z : Nat), .int .u64 (p : Nat)]).below (by simp) ((Below.refl _ _).alloc (Nat.le_refl _) (.cells #[.int .i64 2, .int .i64 2, .int .i64 8, .int .i64 8] 3))
  have hV := Blk.new (W4.alloc (.cells #[.int .u64 1, .int .u64 16, .int .u64 (z : Nat), .int .u64 (p : Nat)] 25)) 3 #[.int .i64 2, .int .i64 2, .int .i64 8, .int .i64 8]
  simp only [World.size_alloc] at hV
  rw [hs4] at hU hV
  have hiU := irow_blk hU [1, 16, (z : Int), (p : Int)] 4 rfl rfl (by unfold maxLen; omega) (by
    intro x hx
    simp at hx
    unfold two64 at *
    rcases hx with rfl | rfl | rfl | rfl
    · exact wfU64 1 (by unfold two64; omega)
    · exact wfU64 16 (by unfold two64; omega)
    · exact wfU64 _ (by unfold two64; omega)
    · exact wfU64 _ (by unfold two64; omega))
  have hiV := irow_blk hV [2, 2, 8, 8] 4 rfl rfl (by unfold maxLen; omega) (by
    intro x hx
    simp at hx
    rcases hx with rfl | rfl
    · exact wfI 2 (by omega)
    · exact wfI 8 (by omega))
  have hba := (Below.refl W4.heap.size W4).alloc (Nat.le_refl _) (.cells #[.int .u64 1, .int .u64 16, .int .u64 (z : Nat), .int .u64 (p : Nat)] 25)
  have hbb := hba.alloc (by simp) (.cells #[.int .i64 2, .int .i64 2, .int .i64 8, .int .i64 8] 3)
  refine (RNumbers_c (some ⟨W0.heap.size, 0, none⟩) 4 _ (some ⟨W0.heap.size + 1, 0, none⟩) 4 _ [(1, 2), (16, 2), (z, 8), (p, 8)] K4.out (by omega) _ hiU hiV).mono ?_
  rintro e W2 ⟨D5, c5, N5, rfl, hown5, hN5, hb5⟩
  have hN5b : N5 ≤ 32 := by have := nsN_le K4.out; rw [← hN5] at this; simpa using this
  have hb6 := Below.then_ hbb hb5
  have hl4 := B4.out.lt
  have hl5 := Q4.out.lt
  have hrM := Lib.hid (own_in hown5)
  clear hN5 hown5 hU hV hiU hiV hba hbb hb5 HN2 HQ2 HB2 o1 f1 o7 f7 o8 f8 o10 f10 c8 c9 hl2 hl3
  have HQ2 := Lib.hid (Q4.out.below hl5 hb6)
  have HN2 := Lib.hid (B4.out.below hl4 hb6)
  have HB2 := Lib.hid (E4.out.trans (hb6.mono E4.out.size))
  have hl2 := HQ2.out.lt
  have hl3 := HN2.out.lt
  clear hb6 B4 Q4 E4 HW4 hs4 hl4 hl5
  have c10 := (HQ2.out.cell 10).trans rfl
  go_wp2_with fail

  have hN11 : ∀ W', Below W2.heap.size W2 W' → IRow W' (some ⟨g2, 0, none⟩) 11 .u64 ((P11 true m t d sum p z nl).map fun q => (q.1 : Int)) := fun W' hb => irow_blk (HN2.out.below hl3 hb) _ 11 rfl rfl (by unfold maxLen; omega) (by
    intro x hx
    obtain ⟨q, hq, rfl⟩ := List.mem_map.1 hx
    exact wfU64 _ (K1.out q hq).1)
  have hI11 : ∀ (W' W : World) (g : Nat), g = W.heap.size → Below (W.alloc (.cells #[.int .i64 4, .int .i64 2, .int .i64 2, .int .i64 2, .int .i64 2, .int .i64 2, .int .i64 4, .int .i64 4, .int .i64 4, .int .i64 2, .int .i64 2] 3)).heap.size (W.alloc (.cells #[.int .i64 4, .int .i64 2, .int .i64 2, .int .i64 2, .int .i64 2, .int .i64 2, .int .i64 4, .int .i64 4, .int .i64 4, .int .i64 2, .int .i64 2] 3)) W' → IRow W' (some ⟨g, 0, none⟩) 11 .i64 ((P11 true m t d sum p z nl).map fun q => (q.2 : Int)) := by
    rintro W' W g rfl hb
    exact irow_blk ((Blk.new W _ _).below (by simp) hb) _ 11 rfl rfl (by unfold maxLen; omega) (by
      intro x hx
      obtain ⟨q, hq, rfl⟩ := List.mem_map.1 hx
      exact wfI _ (by have := (K1.out q hq).2; omega))
  have HSB : Hid (∀ (W W' : World) (g : Nat), g = W.heap.size → Below (sbW nm W).heap.size (sbW nm W) W' → RowIn W' (some ⟨g, 0, none⟩) nl (sbC nm W) (nmF nm)) := by
    rintro W W' g rfl hb
    rw [← HNL.out]
    exact (sb_row nm W (by have := HNL.out; omega)).below hb
  have HN11 := Lib.hid hN11
  have HI11 := Lib.hid hI11
  clear hN11 hI11

  go_region_law (first
    | (go_simp
       go_at_call 39
       refine (RNumbers_c (some ⟨g2, 0, none⟩) 11 11 _ 11 11 _ K1.out (by omega) _ (HN11.out _ (by first | exact Below.refl _ _ | (repeat' (first | exact Below.refl _ _ | refine below_drewL ?_ | refine below_drewN ?_ _ | refine below_sbW _ ?_ ?_ | refine Below.alloc ?_ ?_ _ | (simp [hsz]; done) | (simp [hsz]; omega))))) (by first | ((refine HI11.out _ W2 _ ?_ ?_) <;> (first | exact Below.refl _ _ | (simp [hsz]; done) | ((repeat' (first | exact Below.refl _ _ | refine below_drewL ?_ | refine below_drewN ?_ _ | refine below_sbW _ ?_ ?_ | refine Below.alloc ?_ ?_ _ | (simp [hsz]; done) | (simp [hsz]; omega))); done))) | ((refine HI11.out _ (sbW nm W2.drew) _ ?_ ?_) <;> (first | exact Below.refl _ _ | (simp [hsz]; done) | ((repeat' (first | exact Below.refl _ _ | refine below_drewL ?_ | refine below_drewN ?_ _ | refine below_sbW _ ?_ ?_ | refine Below.alloc ?_ ?_ _ | (simp [hsz]; done) | (simp [hsz]; omega))); done))))).mono ?_
       rintro e w3 ⟨D3, c3, N3, rfl, hown3, hN3, hb3⟩
       have hN3b : N3 ≤ 88 := by have := nsN_le K1.out; rw [← hN3] at this; simpa [P11] using this
       clear hN3
       have HB3 : Below W2.heap.size W2 w3 := Below.then_ (by first | exact Below.refl _ _ | (repeat' (first | exact Below.refl _ _ | refine below_drewL ?_ | refine below_drewN ?_ _ | refine below_sbW _ ?_ ?_ | refine Below.alloc ?_ ?_ _ | (simp [hsz]; done) | (simp [hsz]; omega)))) hb3
       have c3x := (HB3.cell (p := ⟨w.heap.size, 10, none⟩) (by exact hl2)).trans c10)
    | (go_simp
       go_at_call 40
       refine (Join3_c (by first | exact (own_in hown3).below (Below.refl _ _) | exact (own_in hown3).below (sb_below nm w3)) (HSB.out _ _ _ (by simp [hsz]) (by first | exact Below.refl _ _ | exact hb3 | exact Below.then_ ((Below.refl _ _).alloc (Nat.le_refl _) _) hb3)) (hrM.out.below (by first | exact HB3 | exact below_sbW nm HB3 HB3.size)) (by omega) (by omega) (by omega) _ _ (by simp [hsz])).mono ?_
       rintro e w4 ⟨E4, N4, c4, rfl, hown4, hN4, hb4⟩
       clear hN4))
  all_goals
    have HE : Hid (cs (nsB (P11 true m t d sum p z nl) ++ (nmF nm ++ nsB [(1, 2), (16, 2), (z, 8), (p, 8)])) = cs X) := congrArg cs HB.out.symm
    rw [HE.out] at hown4
    go_wp2
    go_ret
    exact ⟨_, _, _, rfl, own_base2 hown4 (by have h5 := HB3.size; have h6 := HB2.out.size; first | omega | (simp [hsz]; omega)), HB2.out.trans ((Below.then_ HB3 (by first | exact hb4 | exact Below.then_ (sb_below nm w3) hb4)).mono HB2.out.size)⟩

end Go.Proofs.YtcclhcbjolelcaaDoor
