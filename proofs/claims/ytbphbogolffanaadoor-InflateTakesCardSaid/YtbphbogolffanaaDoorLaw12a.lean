/-
  LAW 12's WALK: InflateTakes: it returns true, and writes nothing that was there. No conditions (but that the tables lie as the program's text lays them).
-/
import Derived.Test.YtbphbogolffanaaDoorLaw12
namespace Go.Proofs.YtbphbogolffanaaDoor
open Go.RowKit
set_option maxRecDepth 100000
set_option linter.unusedVariables false

theorem rb_append (l m : List F) {i : Nat} (h : i < 8 * l.length) : rb (l ++ m) i = rb l i := by
  unfold rb
  rw [gt_append, if_pos (by omega)]
theorem rb_take (l : List F) {n i : Nat} (h : i < 8 * n) : rb (l.take n) i = rb l i := by
  unfold rb
  rw [gt_take, if_pos (by omega)]
/-- the bytes that it takes alone, whatever behind, with just the room that it fills -/
theorem takes_same {l m : List F} {M : Nat} {u : Un} (h : unpF l M = .ok u) : unpF (l.take ((u.at_ + 7) / 8) ++ m) u.out.length = .ok u := by
  obtain ⟨h1, h2, h3⟩ := unpF_pos h
  have hl : (l.take ((u.at_ + 7) / 8)).length = (u.at_ + 7) / 8 := by simp; omega
  refine unpF_loc.same l M _ _ u (Nat.zero_le _) (Nat.zero_le _) h (fun i hi => ?_) ?_ (Nat.le_refl _)
  · have hi : i < u.at_ := hi
    rw [rb_append _ _ (by rw [hl]; omega), rb_take _ (by omega)]
  · show u.at_ ≤ _
    rw [List.length_append, hl]
    omega
theorem takes_cut {l : List F} {M : Nat} {u : Un} (h : unpF l M = .ok u) : unpF (l.take ((u.at_ + 7) / 8 - 1)) M = .error 20 := by
  obtain ⟨h1, h2, h3⟩ := unpF_pos h
  have hl : (l.take ((u.at_ + 7) / 8 - 1)).length = (u.at_ + 7) / 8 - 1 := by simp; omega
  refine unpF_loc.cut l M _ u (Nat.zero_le _) (Nat.zero_le _) h (fun i hi => ?_) (Nat.zero_le _) ?_
  · rw [hl] at hi
    exact rb_take _ hi
  · show _ < u.at_
    rw [hl]
    omega
theorem takes_full {l : List F} {M : Nat} {u : Un} (h : unpF l M = .ok u) (h0 : 0 < u.out.length) : unpF l (u.out.length - 1) = .error 6 :=
  unpF_loc.full l M _ u (Nat.zero_le _) (Nat.zero_le _) h (Nat.zero_le _) (by show _ < u.out.length; omega)
theorem Row.take_ {w : World} {A : Option Addr} {n k : Nat} {l : List F} (h : Row w A n l) (hk : k ≤ n) : Row w A k (l.take k) := by
  refine ⟨by rw [List.length_take, h.len]; omega, by have := h.2.1; omega, fun h0 => ?_⟩
  obtain ⟨b, o, e, hb, hc⟩ := h.2.2 (by omega)
  refine ⟨b, o, e, hb, fun i hi => ?_⟩
  rw [hc i (by omega), gt_take, if_pos hi]
set_option maxHeartbeats 4000000 in
theorem walk_InflateTakes (w : World) (ht : Tabs w) (A : Option Addr) (n ca : Nat) (l : List F) (hl : RowIn w A n ca l) (B : Option Addr) (m cb : Nat) (bm : List F) (hb : RowIn w B m cb bm) (a : Int) (hwf : (Lit.int .i64 a).wf = true) :
    Calls Tryd.prog 4 #[.slice A n ca, .slice B m cb, .int .i64 a] w fun e w' => e = .returned (.bool true) ∧ Below w.heap.size w w' := by
  have hnm := hl.row.max
  have hmm := hb.row.max
  have HAL := Lib.hid (alive12_c w ht)
  by_cases h1 : (120 : Int) < (n : Int)
  · go_enter Tryd.func4, Tryd.ntmps4
    go_wp2_with (go_at_call 6; refine HAL.out.mono ?_; rintro e w1 ⟨rfl, hb1⟩)
    go_ret
    exact ⟨rfl, hb1⟩
  by_cases h2 : (120 : Int) < (m : Int)
  · go_enter Tryd.func4, Tryd.ntmps4
    go_wp2_with (go_at_call 6; refine HAL.out.mono ?_; rintro e w1 ⟨rfl, hb1⟩)
    go_ret
    exact ⟨rfl, hb1⟩
  by_cases h3 : (1000 : Int) < a
  · go_enter Tryd.func4, Tryd.ntmps4
    go_wp2_with (go_at_call 6; refine HAL.out.mono ?_; rintro e w1 ⟨rfl, hb1⟩)
    go_ret
    exact ⟨rfl, hb1⟩
  obtain ⟨M, hM⟩ : ∃ M : Nat, max a 0 = (M : Int) := ⟨(max a 0).toNat, by omega⟩
  have hM1 : M ≤ 1000 := by omega
  have hn120 : n ≤ 120 := by omega
  have hm120 : m ≤ 120 := by omega
  obtain ⟨i0, hi, hz0, hz1, hz2⟩ := info_parts info_u8
  have HT := Lib.hid ht
  have HL := Lib.hid hl
  have HBM := Lib.hid hb
  have HMX := Lib.hid hM
  clear ht hl hb
  go_enter Tryd.func4, Tryd.ntmps4
  go_wp2_with fail
  refine HAL.out.mono ?_
  rintro e w1 ⟨rfl, hb1⟩
  have HB1 := Lib.hid hb1
  clear hb1
  go_wp2_with fail
  refine (Unpack_c w1 (HT.out.below HB1.out) A n ca l (HL.out.row.below HB1.out) (by omega) a M HMX.out (by omega)).mono ?_
  rintro e w2 (⟨z, g1, rfl, g2⟩ | ⟨u, A2, n2, c2, g1, rfl, g2, g3⟩)
  · have hz := unpF_no0 g1
    have hne : ((z : Int) != 0) = true := by rw [bne_iff_ne]; omega
    have HB2 := Lib.hid (HB1.out.trans (g2.mono HB1.out.size))
    clear g1 g2 hz
    go_wp2
    go_ret
    exact ⟨rfl, HB2.out⟩
  obtain ⟨k1, k2, k3⟩ := unpF_pos g1
  have hol := own_len g2
  obtain ⟨N, hN⟩ : ∃ N, N = (u.at_ + 7) / 8 := ⟨_, rfl⟩
  have hts := takes_same (m := bm) g1
  have htc := takes_cut g1
  rw [← hN] at hts htc ⊢
  rw [hol] at hts
  have hNn : N ≤ n := by have := HL.out.row.len; omega
  have hN1 : 1 ≤ N := by omega
  have hn2M : n2 ≤ M := by omega
  have HU := Lib.hid g1
  have HTS := Lib.hid hts
  have HTC := Lib.hid htc
  have HOL := Lib.hid hol
  have HN := Lib.hid hN
  have HOW := Lib.hid g2
  have HB2 := Lib.hid (HB1.out.trans (g3.mono HB1.out.size))
  have hca := HL.out.le
  have hcm := HL.out.max
  unfold maxLen at hcm
  have d1 : decide (M < n2) = false := decide_eq_false (by omega)
  have d2 : decide (n < N) = false := decide_eq_false (by omega)
  have d3 : decide ((N : Int) < 1) = false := decide_eq_false (by omega)
  have hNc : (N : Int) ≤ (ca : Int) := by omega
  clear g1 g2 g3 k1 k2 k3 hol hts htc hN HB1
  go_wp2_with fail
  refine (Copy_c A N ca (l.take N) w2 ((HL.out.row.below HB2.out).take_ hNn) (by omega)).mono ?_
  rintro e w3 ⟨A3, c3, rfl, hown3, hb3⟩
  have HO3 := Lib.hid hown3
  have HB3 := Lib.hid (HB2.out.trans (hb3.mono HB2.out.size))
  have hs23 : w2.heap.size ≤ w3.heap.size := hb3.size
  have HB23 := Lib.hid hb3
  clear hown3 hb3
  go_wp2_with (first
    | (at_builtin
       refine wpList_append_row i0 hi hz0 hz1 hz2 rfl _ _ rfl w2.heap.size (.slice A3 N c3) N (cs (l.take N)) rfl HO3.out B m cb bm rfl (HBM.out.row.below HB3.out) (by omega) hs23 ?_
       intro v4 w4 hL4
       obtain ⟨A4, c4, rfl, hown4, hg4, hnw4⟩ := hL4))
  have HB24 := HB23.out.grown hg4 hs23 (fun k hk => (HO3.out.lt k hk).1)
  have hown4b : w4.ownsRow w2.heap.size 5 1 (.slice A4 (N + m) c4) (N + m) (cs (l.take N ++ bm)) := by rw [cs_append]; exact hown4
  have HR4 := Lib.hid (Row.of_own hown4b)
  have HOW4 := Lib.hid ((Row.of_own HOW.out).below HB24)
  have HB4 := Lib.hid (HB2.out.trans (HB24.mono HB2.out.size))
  clear hown4 hg4 hnw4 hown4b HB24 HO3 HB3 HB23
  refine (Unpack_ok (HT.out.below HB4.out) HR4.out (by omega) (by omega : max (n2 : Int) 0 = ((n2 : Nat) : Int)) (by omega) HTS.out).mono ?_
  rintro e w5 ⟨A5, n5, c5, rfl, hown5, hb5⟩
  obtain rfl : n5 = n2 := by have := own_len hown5; have := HOL.out; omega
  rw [← HN.out]
  have HR5 := Lib.hid (Row.of_own hown5)
  have HOW5 := Lib.hid (HOW4.out.below hb5)
  have HB5 := Lib.hid (HB4.out.trans (hb5.mono HB4.out.size))
  have hsub : IntKind.i64.wrap ((N : Int) - 1) = ((N - 1 : Nat) : Int) := (IntWalk.i64_in _ (by omega)).trans (by omega)
  obtain ⟨N1, hN1'⟩ : ∃ N1, N1 = N - 1 := ⟨_, rfl⟩
  rw [← hN1'] at hsub HTC
  have hN1c : (N1 : Int) ≤ (ca : Int) := by omega
  have hN1n : N1 ≤ n := by omega
  have hs3 : (N : Int) - 1 = (N1 : Int) := by omega
  have HN1' := Lib.hid hN1'
  clear hown5 hb5 HOW4 HR4 hN1'
  go_wp2_with fail
  refine (Unpack_no (HT.out.below HB5.out) ((HL.out.row.below HB5.out).take_ hN1n) (by omega) HMX.out (by omega) HTC.out).mono ?_
  rintro e w6 ⟨rfl, hb6⟩
  have HR6 := Lib.hid (HR5.out.below hb6)
  have HOW6 := Lib.hid (HOW5.out.below hb6)
  have HB6 := Lib.hid (HB5.out.trans (hb6.mono HB5.out.size))
  clear hb6 HR5 HOW5 HB5
  have hmx : max ((n5 : Int) - 1) 0 = ((n5 - 1 : Nat) : Int) := by omega
  have HMX2 := Lib.hid hmx
  clear hmx
  by_cases hz : n5 = 0
  · have hz2 : ((n5 : Int) == 0) = true := by rw [beq_iff_eq]; omega
    clear hz
    go_wp2_with fail
    refine (Unpack_c w6 (HT.out.below HB6.out) A n ca l (HL.out.row.below HB6.out) (by omega) _ (n5 - 1) HMX2.out (by omega)).mono ?_
    rintro e w7 (⟨z, _, rfl, g2⟩ | ⟨u7, A7, n7, c7, _, rfl, _, g2⟩)
    all_goals
      have HR7 := Lib.hid (HR6.out.below g2)
      have HOW7 := Lib.hid (HOW6.out.below g2)
      have HB7 := Lib.hid (HB6.out.trans (g2.mono HB6.out.size))
      clear g2
      go_wp2_with (go_at_call 9; refine (Same_c _ _ _ _ _ _ _ _ HR7.out HOW7.out rfl).mono ?_; rintro e w8 ⟨rfl, q8, rfl⟩)
      go_ret
      exact ⟨rfl, below_drewN HB7.out q8⟩
  · have hz2 : ((n5 : Int) == 0) = false := by rw [beq_eq_false_iff_ne]; omega
    have hfull := takes_full HU.out (by have := HOL.out; omega)
    rw [HOL.out] at hfull
    have HFULL := Lib.hid hfull
    clear hz hfull
    go_wp2_with fail
    refine (Unpack_no (HT.out.below HB6.out) (HL.out.row.below HB6.out) (by omega) HMX2.out (by omega) HFULL.out).mono ?_
    rintro e w7 ⟨rfl, g2⟩
    have HR7 := Lib.hid (HR6.out.below g2)
    have HOW7 := Lib.hid (HOW6.out.below g2)
    have HB7 := Lib.hid (HB6.out.trans (g2.mono HB6.out.size))
    clear g2
    go_wp2_with (go_at_call 9; refine (Same_c _ _ _ _ _ _ _ _ HR7.out HOW7.out rfl).mono ?_; rintro e w8 ⟨rfl, q8, rfl⟩)
    go_ret
    exact ⟨rfl, below_drewN HB7.out q8⟩
end Go.Proofs.YtbphbogolffanaaDoor
