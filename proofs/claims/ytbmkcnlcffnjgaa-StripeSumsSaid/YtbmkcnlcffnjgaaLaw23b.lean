/-
  LAW 23: what follows sums of columns are sums of what follows each: StripeSums. No conditions.
-/
import Derived.Test.YtbmkcnlcffnjgaaLaw23
import Derived.Test.YtbmkcnlcffnjgaaSrm
import Derived.Test.YtbmkcnlcffnjgaaSrr
namespace Go.Proofs.Ytbmkcnlcffnjgaa
open Go.RowKit
set_option maxRecDepth 100000
set_option linter.unusedVariables false

theorem MIn.few23 {w : World} {A : Option Addr} {n m cap : Nat} {RA : Nat → Option Addr} {RL RC : Nat → Nat} {R : Nat → List F} (h : MIn w A n cap RA RL RC R) (hm : m ≤ n) : MIn w A m cap RA RL RC R :=
  ⟨Nat.le_trans hm h.le, h.max, fun hn => by
    obtain ⟨b, off, e, hl, hc⟩ := h.top (by omega)
    exact ⟨b, off, e, hl, fun r hr => hc r (by omega)⟩, fun r hr => h.row r (by omega)⟩
/-- a sum of two rows -/
def add23 (C : Nat) (a b : List F) : List F := mkF (fun j => gt a j + gt b j) C
theorem add23_par {n C j a : Nat} {R R' : Nat → List F} {x y z : F} (hn : n ≤ 256) (ha : a < C) (h1 : ParAt n (rowAt R n a) j x) (h2 : ParAt n (rowAt R' n a) j y) (h3 : ParAt n (rowAt (fun r => add23 C (R r) (R' r)) n a) j z) : z = x + y := by
  refine ParAt.unique hn h3 ((h1.add h2).congr fun i hi => ?_)
  rw [gt_mkF, if_pos hi, gt_rowAt, if_pos hi, gt_rowAt, if_pos hi, gt_rowAt, if_pos hi]
  show _ = gt (mkF _ C) a
  rw [gt_mkF, if_pos ha]
set_option maxHeartbeats 8000000 in
theorem walk_StripeSums (w : World) (A : Option Addr) (n cap : Nat) (RA : Nat → Option Addr) (RL RC : Nat → Nat) (R : Nat → List F) (h : MIn w A n cap RA RL RC R) (A' : Option Addr) (n' cap' : Nat) (RA' : Nat → Option Addr) (RL' RC' : Nat → Nat) (R' : Nat → List F) (h' : MIn w A' n' cap' RA' RL' RC' R') (k : Int) (hk : (Lit.int .i64 k).wf = true) :
    Calls Try.prog 6 #[.slice A n cap, .slice A' n' cap', .int .i64 k] w fun e w' => e = .returned (.bool true) ∧ Below w.heap.size w w' := by
  obtain ⟨i0, hi, hz0, hz1, hz2⟩ := info_parts info_bytes3
  obtain ⟨j0, hj, hy0, hy1, hy2⟩ := info_parts info_u8
  have hnm := h.nmax
  have hnm' := h'.nmax
  have HH := Lib.hid h
  have HH' := Lib.hid h'
  clear h h' hk
  go_enter Try.func6, Try.ntmps6
  go_wp2_with fail
  refine (alive23_c w).mono ?_
  rintro e w1 ⟨rfl, hb1⟩
  have HB1 := Lib.hid hb1
  clear hb1
  by_cases h0 : n = 0
  · have e0 : ((n : Int) == 0) = true := by rw [beq_iff_eq]; omega
    go_wp2
    go_ret
    exact ⟨rfl, HB1.out⟩
  have e0 : ((n : Int) == 0) = false := by rw [beq_eq_false_iff_ne]; omega
  by_cases h8 : (8 : Int) < n
  · go_wp2
    go_ret
    exact ⟨rfl, HB1.out⟩
  by_cases hnn : n' = n
  case neg =>
    have e1 : ((n' : Int) != (n : Int)) = true := by rw [bne_iff_ne]; omega
    go_wp2
    go_ret
    exact ⟨rfl, HB1.out⟩
  obtain rfl : n = n' := hnn.symm
  have e1 : ((n : Int) != (n : Int)) = false := by simp
  by_cases hk0 : k < 1
  · go_wp2
    go_ret
    exact ⟨rfl, HB1.out⟩
  by_cases hk8 : 6 < k
  · go_wp2
    go_ret
    exact ⟨rfl, HB1.out⟩
  obtain ⟨K1, hK1⟩ : ∃ K1 : Nat, k = ((K1 + 1 : Nat) : Int) := ⟨k.toNat - 1, by omega⟩
  subst hK1
  obtain ⟨K, hK⟩ : ∃ K, K = K1 + 1 := ⟨_, rfl⟩
  rw [← hK] at hk0 hk8 ⊢
  have hKi : (K : Int) - 1 = (K1 : Int) := by omega
  have HK := Lib.hid hK
  clear hK
  obtain ⟨C, hC⟩ : ∃ C : Nat, C = RL 0 := ⟨_, rfl⟩
  have HC := Lib.hid hC
  clear hC
  go_wp2
  go_loopw [7, 49] (fun v iv wr => ∃ i : Nat, i ≤ n ∧ iv = .int .i64 i ∧ ∃ g c RS RCS, v = .slice (some ⟨g, 0, none⟩) i c ∧ Hid (Rws wr w1.heap.size g i c RS (fun _ => C) RCS (fun r => add23 C (R r) (R' r))) ∧ Hid (0 < i → C ≤ 40) ∧ Hid (∀ r, r < i → RL r = C ∧ RL' r = C) ∧ Hid (Below w1.heap.size w1 wr)) (fun _ iv _ => n - (intOf iv).toNat)
  case atStart => exact ⟨0, by omega, rfl, _, _, fun _ => none, fun _ => 0, rfl, Rws.none_ _ (Nat.le_refl _), fun h => absurd h (by omega), fun r hr => by omega, (Below.refl _ _).alloc (Nat.le_refl _) _⟩
  case round =>
    obtain ⟨i, hi', rfl, g, c, RS, RCS, rfl, HR, HC40, HL, HB⟩ := hrel
    by_cases hlt : i < n
    · have hii : (i : Int) < (n : Int) := by omega
      have h0i : (0 : Int) < (n : Int) := by omega
      have hB0 := HB1.out.trans (HB.out.mono HB1.out.size)
      have hMI := HH.out.below hB0
      have hMI' := HH'.out.below hB0
      obtain ⟨b1, o1, rfl, hb1l, q1⟩ := hMI.at_ hlt
      obtain ⟨b1', o1', e, _, q0⟩ := hMI.at_ (r := 0) (by omega)
      injection e with e
      injection e with e2 e3
      subst e2 e3
      rw [Nat.add_zero, ← HC.out] at q0
      obtain ⟨b2, o2, rfl, hb2l, q2⟩ := hMI'.at_ hlt
      have HROW := Lib.hid (hMI.row i hlt)
      have HROW' := Lib.hid (hMI'.row i hlt)
      have HB0 := Lib.hid hB0
      clear hMI hMI' hB0
      obtain ⟨L, hL⟩ : ∃ L, L = RL i := ⟨_, rfl⟩
      obtain ⟨L', hL'⟩ : ∃ L', L' = RL' i := ⟨_, rfl⟩
      rw [← hL] at q1 HROW
      rw [← hL'] at q2 HROW'
      have HLL := Lib.hid hL
      have HLL' := Lib.hid hL'
      clear hL hL'
      by_cases h40 : (40 : Int) < (L : Int)
      · go_wp2
        go_quiet (fail)
        go_wp2
        go_ret
        exact ⟨rfl, below_drewN HB0.out _⟩
      have d1 : decide ((40 : Int) < (L : Int)) = false := decide_eq_false h40
      by_cases hLC : L = C
      case neg =>
        have e2 : ((L : Int) != (C : Int)) = true := by rw [bne_iff_ne]; omega
        go_wp2
        go_quiet (fail)
        go_wp2
        go_ret
        exact ⟨rfl, below_drewN HB0.out _⟩
      have e2 : ((L : Int) != (C : Int)) = false := by rw [hLC]; simp
      have HLC := Lib.hid hLC
      clear hLC
      by_cases hLC' : L' = C
      case neg =>
        have e3 : ((L' : Int) != (C : Int)) = true := by rw [bne_iff_ne]; omega
        go_wp2
        go_quiet (fail)
        go_wp2
        go_ret
        exact ⟨rfl, below_drewN HB0.out _⟩
      have e3 : ((L' : Int) != (C : Int)) = false := by rw [hLC']; simp
      have HLC' := Lib.hid hLC'
      clear hLC'
      go_wp2
      go_quiet (fail)
      have q1' : (wr.drewN nq).cell? ⟨b1, o1 + i, none⟩ = some (.slice (RA i) L (RC i)) := q1
      have q2' : (wr.drewN nq).cell? ⟨b2, o2 + i, none⟩ = some (.slice (RA' i) L' (RC' i)) := q2
      have HR5 : Hid (Rws (wr.drewN nq) w1.heap.size g i c RS (fun _ => C) RCS (fun r => add23 C (R r) (R' r))) := HR.out.below (below_drewN (Below.refl _ _) nq)
      have HB5 : Hid (Below w1.heap.size w1 (wr.drewN nq)) := below_drewN HB.out nq
      have HB05 : Hid (Below w.heap.size w (wr.drewN nq)) := below_drewN HB0.out nq
      have HROW5 := Lib.hid (HROW.out.drewN nq)
      have HROW5' := Lib.hid (HROW'.out.drewN nq)
      have hb15 : b1 < (wr.drewN nq).heap.size := hb1l
      have hb25 : b2 < (wr.drewN nq).heap.size := hb2l
      clear HR HB HB0 HROW HROW' q1 q2 q0
      generalize wr.drewN nq = W5 at *
      go_wp2
      go_loopw [9, 88] (fun v iv wr => ∃ j : Nat, j ≤ L ∧ iv = .int .i64 j ∧ ∃ g9 c9, v = .slice (some ⟨g9, 0, none⟩) j c9 ∧ Hid (wr.ownsRow W5.heap.size 5 1 (.slice (some ⟨g9, 0, none⟩) j c9) j (cs (mkF (fun a => gt (R i) a + gt (R' i) a) j))) ∧ Hid (Below W5.heap.size W5 wr)) (fun _ iv _ => L - (intOf iv).toNat)
      case atStart => exact ⟨0, by omega, rfl, _, 0, rfl, World.ownsRow_made (e := 5) (size := 1) W5 #[] 0 (Nat.le_refl _) (Nat.zero_le _) rfl, (Below.refl _ _).alloc (Nat.le_refl _) _⟩
      case round =>
        obtain ⟨j, hj', rfl, g9, c9, rfl, HO, HBj⟩ := hrel
        by_cases hlj : j < L
        · have hji : (j : Int) < (L : Int) := by omega
          have hji' : (j : Int) < (L' : Int) := by have := HLC.out; have := HLC'.out; omega
          obtain ⟨b3, o3, hA3, l3, q3⟩ := (HROW5.out.row.below HBj.out).at_ (k := j) hlj
          obtain ⟨b4, o4, hA4, l4, q4⟩ := (HROW5'.out.row.below HBj.out).at_ (k := j) (by omega)
          have q1 := (HBj.out.cell (p := ⟨b1, o1 + i, none⟩) hb15).trans q1'
          have q2 := (HBj.out.cell (p := ⟨b2, o2 + i, none⟩) hb25).trans q2'
          rw [hA3] at q1
          rw [hA4] at q2
          have hl3 : b3 < W5.heap.size := by
            obtain ⟨b', o', e, hb, _⟩ := HROW5.out.row.2.2 (by omega)
            rw [hA3] at e; injection e with e; injection e with e _ _; omega
          have hl4 : b4 < W5.heap.size := by
            obtain ⟨b', o', e, hb, _⟩ := HROW5'.out.row.2.2 (by omega)
            rw [hA4] at e; injection e with e; injection e with e _ _; omega
          have hown' := HO.out
          have ag1 : some b1 ≠ (Value.slice (some ⟨g9, 0, none⟩) j c9).ownBlock := fun e => by have := (hown'.lt b1 e.symm).1; omega
          have ag2 : some b2 ≠ (Value.slice (some ⟨g9, 0, none⟩) j c9).ownBlock := fun e => by have := (hown'.lt b2 e.symm).1; omega
          have ag3 : some b3 ≠ (Value.slice (some ⟨g9, 0, none⟩) j c9).ownBlock := fun e => by have := (hown'.lt b3 e.symm).1; omega
          have ag4 : some b4 ≠ (Value.slice (some ⟨g9, 0, none⟩) j c9).ownBlock := fun e => by have := (hown'.lt b4 e.symm).1; omega
          have lW : W5.heap.size ≤ wr.heap.size := HBj.out.size
          obtain ⟨f, hf⟩ : ∃ f : Nat → F, f = fun a => gt (R i) a + gt (R' i) a := ⟨_, rfl⟩
          have hfj : gt (R i) j + gt (R' i) j = f j := by rw [hf]
          have hxor := bits_xor (gt (R i) j) (gt (R' i) j)
          rw [hfj] at hxor
          rw [← hf] at hown'
          have hsn := Lib.hid (mkF_snoc f j)
          have HF := Lib.hid hf
          have HBj' := HBj
          have hj255 : j ≤ 40 := by omega
          generalize gt (R i) j = x at *
          generalize gt (R' i) j = y at *
          generalize f j = z at *
          clear hA3 hA4 hf hfj HO
          go_wp2
          go_region_held3 (fun w' => w'.cell? ⟨b1, o1 + i, none⟩ = some (.slice (some ⟨b3, o3, none⟩) L (RC i)) ∧ w'.cell? ⟨b3, o3 + j, none⟩ = some (.int .u8 x.n) ∧ w'.cell? ⟨b2, o2 + i, none⟩ = some (.slice (some ⟨b4, o4, none⟩) L' (RC' i)) ∧ w'.cell? ⟨b4, o4 + j, none⟩ = some (.int .u8 y.n))
            (first
              | go_keep
              | (go_split_ands
                 refine ⟨?_, ?_, ?_, ?_⟩
                 · (rw [hgrow.cell_far _ (by simp; omega) ag1]; assumption)
                 · (rw [hgrow.cell_far _ (by simp; omega) ag3]; assumption)
                 · (rw [hgrow.cell_far _ (by simp; omega) ag2]; assumption)
                 · (rw [hgrow.cell_far _ (by simp; omega) ag4]; assumption)))
            ((refine step_append_lies _ (by rfl) _ _ _ (by rfl) W5.heap.size 5 j0 (.int .u8 0) 1 1 Try.underlying22 hj hy0 hy1 hy2 rfl (by decide) (.slice (some ⟨g9, 0, none⟩) j c9) j (cs (mkF f j)) (by rfl) ((hown'.alloc _).drew)
                ⟨wr.heap.size, 0, none⟩ 1 1 [.int .u8 z.n] (by rfl) (by rfl) (World.news_of_block (cs := #[.int .u8 z.n]) (t := 5) (fr := (0, 0)) (heap_alloc_new wr _)) (by simp [Value.oneCell'])
                (by omega) (by unfold maxLen; omega) (by omega) (by simp; omega) (wr.heap.size + 1) (by simp) ?_; intro gg cap5 w5 hown5 hgrow hat hlt5))
          have HO5 : Hid (w5.ownsRow W5.heap.size 5 1 (.slice (some ⟨gg, 0, none⟩) (j + 1) cap5) (j + 1) (cs (mkF f (j + 1)))) := by
            unfold Hid
            rw [hsn.out, cs_append]
            exact hown5
          have HB5j : Hid (Below W5.heap.size W5 w5) := ((HBj'.out.alloc HBj'.out.size _).drew).grown hgrow (by simp; omega) (fun x hx => (hown'.lt x hx).1)
          rw [HF.out] at HO5
          clear hown5 hgrow hat hlt5 hown' ag1 ag2 ag3 ag4 hxor q1 q2 q3 q4
          go_wp2
          go_roundw
          case rel => exact ⟨j + 1, by omega, by go_num, gg, cap5, rfl, HO5, HB5j⟩
          case measure => simp [intOf]; omega
        · obtain rfl : L = j := by omega
          have hgl : g < W5.heap.size := (HR5.out.own.lt g rfl).2
          have hg9 : W5.heap.size ≤ g9 := (HO.out.lt g9 rfl).1
          have HRI : Hid (RowIn wr (some ⟨g9, 0, none⟩) L c9 (add23 C (R i) (R' i))) := by
            unfold Hid
            rw [← HLC.out]
            exact own_RowIn HO.out
          have HRW := Lib.hid (HR5.out.below HBj.out)
          clear HO
          go_wp2_with ((at_builtin; refine wpList_append_lies _ rfl (.tmp 110) (.tmp 112) 40 rfl w1.heap.size 22 i0 (.slice none 0 0) 1 24 Try.underlying40 hi hz0 hz1 hz2 rfl (by decide) (.slice (some ⟨g, 0, none⟩) i c) i (vs (slf RS (fun _ => C) RCS) i) rfl (HRW.out.own.alloc _) ⟨wr.heap.size, 0, none⟩ 1 1 (vs (slf (fun _ => some ⟨g9, 0, none⟩) (fun _ => L) (fun _ => c9)) 1) rfl rfl (one_cell wr _ _) (by intro u hu; simp [vs, slf] at hu; subst hu; rfl) (by omega) (by unfold maxLen; omega) (by omega) (by have := HB5.out.size; have := HBj.out.size; simp; omega) (wr.heap.size + 1) (by simp) ?_; intro g5 c5 w6 hown5 hg5 hat5 hlt5))
          have hR6 := ((HRW.out).push (m := 1) (A' := fun _ => some ⟨g9, 0, none⟩) (L' := fun _ => L) (C' := fun _ => c9) (R' := fun _ => add23 C (R i) (R' i)) (fun r hr => HRI.out) (fun r hr h0 x e => by injection e with e; subst e; show g9 ≠ g; omega) ((Below.refl wr.heap.size wr).alloc (Nat.le_refl _) _) hown5 hg5 (by
            rcases hat5 with h | h
            · left
              injection h with h
              exact h.symm
            · right
              rw [h]
              simp)).congr (RL' := fun _ => C) (R' := fun r => add23 C (R r) (R' r)) (fun r hr => by show (if r < i then C else L) = C; rw [HLC.out]; split <;> rfl) (fun r hr => by
            by_cases e : r < i
            · simp only [if_pos e]
            · simp only [if_neg e]
              rw [show r = i by omega])
          have HR6 := Lib.hid hR6
          have HB7 : Hid (Below w1.heap.size w1 w6) := ((HB5.out.trans (HBj.out.mono HB5.out.size)).alloc (by have := HB5.out.size; have := HBj.out.size; omega) _).grown hg5 (by have := HB5.out.size; have := HBj.out.size; simp; omega) (fun x hx => by injection hx with hx; subst hx; exact (HR5.out.own.lt g rfl).1)
          clear hR6 hown5 hg5 hat5 hlt5
          go_wp2
          go_roundw
          case rel =>
            refine ⟨i + 1, by omega, by go_num, g5, c5, _, _, rfl, HR6.out, fun _ => by have := HLC.out; omega, fun r hr => ?_, HB7.out⟩
            by_cases e : r < i
            · exact HL.out r e
            · rw [show r = i by omega]
              exact ⟨by rw [← HLL.out, HLC.out], by rw [← HLL'.out, HLC'.out]⟩
          case measure => simp [intOf]; omega
    · obtain rfl : i = n := by omega
      have hC40 := HC40.out (by omega)
      have hB0 : Hid (Below w.heap.size w wr) := HB1.out.trans (HB.out.mono HB1.out.size)
      have HP1 := Lib.hid (Parity_yes (k := K) (HH.out.below hB0.out) (fun r hr => (HL.out r hr).1) (by omega) (by omega) (by omega))
      go_wp2_with fail
      refine HP1.out.mono ?_
      rintro e w2 ⟨g1, hi1, G1, M1, rfl, hM1, hpar1, hb2⟩
      have HM1 := Lib.hid hM1
      have HPR1 := Lib.hid hpar1
      have hB2 : Hid (Below w.heap.size w w2) := hB0.out.trans (hb2.mono hB0.out.size)
      have HR2 := Lib.hid (HR.out.below hb2)
      have HP2 := Lib.hid (Parity_yes (k := K) (HH'.out.below hB2.out) (fun r hr => (HL.out r hr).2) (by omega) (by omega) (by omega))
      clear hM1 hpar1 hb2 HP1 HR HB hB0
      go_wp2_with fail
      refine HP2.out.mono ?_
      rintro e w3 ⟨g2, hi2, G2, M2, rfl, hM2, hpar2, hb3⟩
      have HM2 := Lib.hid hM2
      have HPR2 := Lib.hid hpar2
      have hB3 : Hid (Below w.heap.size w w3) := hB2.out.trans (hb3.mono hB2.out.size)
      have HR3 := Lib.hid (HR2.out.below hb3)
      have HM13 := Lib.hid (HM1.out.below (hb3.mono HM1.out.hle))
      have HP3 := Lib.hid (Parity_yes (k := K) HR3.out.min (fun r hr => rfl) (by omega) (by omega) (by omega))
      clear hM2 hpar2 hb3 HP2 HR2 HM1 hB2
      go_wp2_with fail
      refine HP3.out.mono ?_
      rintro e w4 ⟨g3, hi3, G3, M3, rfl, hM3, hpar3, hb4⟩
      have HM3 := Lib.hid hM3
      have HPR3 := Lib.hid hpar3
      have hB4 : Hid (Below w.heap.size w w4) := hB3.out.trans (hb4.mono hB3.out.size)
      have HM14 := Lib.hid (HM13.out.below (hb4.mono HM13.out.hle))
      have HM24 := Lib.hid (HM2.out.below (hb4.mono HM2.out.hle))
      have HP4 := Lib.hid (Parity_yes (k := K1) (HH.out.below hB4.out) (fun r hr => (HL.out r hr).1) (by omega) (by have := HK.out; omega) (by omega))
      clear hM3 hpar3 hb4 HP3 HR3 HM13 HM2 hB3
      go_wp2_with fail
      refine HP4.out.mono ?_
      rintro e w5 ⟨g4, hi4, G4, M4, rfl, hM4, hpar4, hb5⟩
      have HM4 := Lib.hid hM4
      have HPR4 := Lib.hid hpar4
      have hB5 : Hid (Below w.heap.size w w5) := hB4.out.trans (hb5.mono hB4.out.size)
      have HM15 := Lib.hid (HM14.out.below (hb5.mono HM14.out.hle))
      have HM25 := Lib.hid (HM24.out.below (hb5.mono HM24.out.hle))
      have HM35 := Lib.hid (HM3.out.below (hb5.mono HM3.out.hle))
      have hlast : decide (sameR23 K1 (fun r => mkF (M4 r) C) K1 (fun r => mkF (M1 r) C)) = true := decide_eq_true ⟨rfl, fun r hr => ext_gt (by rw [mkF_length, mkF_length]) fun a ha => by
        rw [mkF_length] at ha
        rw [gt_mkF, gt_mkF, if_pos ha, if_pos ha]
        exact ParAt.unique (by omega) (HPR4.out r hr a ha) (HPR1.out r (by have := HK.out; omega) a ha)⟩
      have hRW := RowsW23_c (HM4.out.toIn (cg := K1) (Nat.le_refl _) (by have := HK.out; unfold maxLen; omega)) (MIn.few23 (m := K1) (HM15.out.toIn (cg := K) (Nat.le_refl _) (by unfold maxLen; omega)) (by have := HK.out; omega))
      rw [hlast] at hRW
      have HRW := Lib.hid hRW
      have e4 : ((K : Int) != (K : Int)) = false := by simp
      have hKK : (K1 : Int) ≤ (K : Int) := by have := HK.out; omega
      clear hM4 hpar4 hb5 HP4 HM14 HM24 HM3 hB4 hlast hRW
      go_wp2_with fail
      refine HRW.out.mono ?_
      rintro e _ ⟨rfl, q, rfl⟩
      have HN1 := Lib.hid (HM15.out.below (below_drewN (Below.refl _ _) q))
      have HN2 := Lib.hid (HM25.out.below (below_drewN (Below.refl _ _) q))
      have HN3 := Lib.hid (HM35.out.below (below_drewN (Below.refl _ _) q))
      have hB6 : Hid (Below w.heap.size w (w5.drewN q)) := below_drewN hB5.out q
      have HX : Hid (∀ x, x < K → ∀ y, y < C → M3 x y = M1 x y + M2 x y) := fun x hx y hy => add23_par (by omega) hy (HPR1.out x hx y hy) (HPR2.out x hx y hy) (HPR3.out x hx y hy)
      clear HM15 HM25 HM35 hB5 HRW HM4 HPR1 HPR2 HPR3 HPR4
      generalize w5.drewN q = w6 at *
      go_wp2
      go_loopw [183] (fun iv wr => ∃ x : Nat, x ≤ K ∧ iv = .int .i64 x ∧ Hid (Below w6.heap.size w6 wr)) (fun iv _ => K - (intOf iv).toNat)
      case atStart => exact ⟨0, by omega, rfl, Below.refl _ _⟩
      case round =>
        obtain ⟨x, hx', rfl, HBx⟩ := hrel
        by_cases hlx : x < K
        · have hxi : (x : Int) < (K : Int) := by omega
          have qt3 := (HN3.out.below (HBx.out.mono HN3.out.hle)).topAt hlx
          obtain ⟨W9, hW9⟩ : ∃ W, W = wr := ⟨_, rfl⟩
          subst hW9
          go_wp2
          go_loopw [191] (fun iv wr => ∃ y : Nat, y ≤ C ∧ iv = .int .i64 y ∧ Hid (Below w6.heap.size w6 wr)) (fun iv _ => C - (intOf iv).toNat)
          case atStart => exact ⟨0, by omega, rfl, HBx⟩
          case round =>
            clear qt3
            obtain ⟨y, hy', rfl, HBy⟩ := hrel
            by_cases hly : y < C
            · have hyi : (y : Int) < (C : Int) := by omega
              have k3 := HN3.out.below (HBy.out.mono HN3.out.hle)
              have k1 := HN1.out.below (HBy.out.mono HN1.out.hle)
              have k2 := HN2.out.below (HBy.out.mono HN2.out.hle)
              have t1 := k1.topAt hlx
              have t2 := k2.topAt hlx
              have t3 := k3.topAt hlx
              have c1 := k1.cellAt hlx hly
              have c2 := k2.cellAt hlx hly
              have c3 := k3.cellAt hlx hly
              rw [HX.out x hlx y hly] at c3
              have hxor := bits_xor (M1 x y) (M2 x y)
              generalize M1 x y = p at *
              generalize M2 x y = r at *
              generalize p + r = z at *
              have hne : ((z.n : Int) != (z.n : Int)) = false := by simp
              clear k1 k2 k3
              go_wp2
              go_region_held3 (fun w' => w'.cell? ⟨g1, x, none⟩ = some (.slice (some ⟨G1 x, 0, none⟩) C C) ∧ w'.cell? ⟨g2, x, none⟩ = some (.slice (some ⟨G2 x, 0, none⟩) C C) ∧ w'.cell? ⟨g3, x, none⟩ = some (.slice (some ⟨G3 x, 0, none⟩) C C) ∧ w'.cell? ⟨G1 x, y, none⟩ = some (.int .u8 p.n) ∧ w'.cell? ⟨G2 x, y, none⟩ = some (.int .u8 r.n) ∧ w'.cell? ⟨G3 x, y, none⟩ = some (.int .u8 z.n)) (go_keep) (fail)
              go_wp2
              go_roundw
              case rel => exact ⟨y + 1, by omega, by go_num, HBy.out.drew⟩
              case measure => simp [intOf]; omega
            · obtain rfl : C = y := by omega
              go_wp2
              go_roundw
              case rel => exact ⟨x + 1, by omega, by go_num, HBy⟩
              case measure => simp [intOf]; omega
        · obtain rfl : K = x := by omega
          go_wp2
          go_ret
          exact ⟨rfl, hB6.out.trans (HBx.out.mono hB6.out.size)⟩
end Go.Proofs.Ytbmkcnlcffnjgaa
