/-
  THE CONTRACT OF block's putLengths. No conditions.
-/
import Derived.Test.YthnbflkoipnakaaGreatDoorBlkk
namespace Go.Proofs.YthnbflkoipnakaaGreatDoor
open Go.RowKit
set_option maxRecDepth 1000000
set_option linter.unusedVariables false

/-- the lengths of lengths, in their order -/
def oF (LA : Nat → Nat) (i : Nat) : Nat := LA (ordN.getD i 0)
/-- how many of them are told -/
def oN (LA : Nat → Nat) : Nat := toldN (fR 19 (oF LA)) 4 19
def thB (LA : Nat → Nat) : Nat → List Bool
  | 0 => []
  | k + 1 => thB LA k ++ putB (oF LA k) 3
def rnB (l : List Int) (R : List Rn) : List Bool := R.flatMap fun r => symB l r.s r.z r.v
theorem rnB_snoc (l : List Int) (R : List Rn) (r : Rn) : rnB l (R ++ [r]) = rnB l R ++ symB l r.s r.z r.v := by simp [rnB]
/-- the bits of lengths -/
def plB (LA : Nat → Nat) (R : List Rn) : List Bool := putB (oN LA - 4) 4 ++ thB LA (oN LA) ++ rnB (nI (arr LA 19)) R
def upTo (f : Nat → Nat) (i : Nat) : Nat → Nat := fun j => if j < i then f j else 0
theorem fR_zero (n : Nat) : List.replicate n (0 : Int) = fR n fun _ => 0 := by
  refine List.ext_getElem (by simp [fR]) fun i h1 h2 => ?_
  simp [fR]
theorem fR_up (f : Nat → Nat) {n i : Nat} (h : i < n) : (iC (fR n (upTo f i))).set i (.int .i64 (f i : Nat)) = iC (fR n (upTo f (i + 1))) := by
  refine List.ext_getElem (by simp [iC, fR]) fun j h1 h2 => ?_
  simp only [iC, fR, List.getElem_set, List.getElem_map, List.getElem_range, upTo]
  by_cases e : i = j
  · subst e; simp
  · rw [if_neg e]
    by_cases h3 : j < i
    · rw [if_pos h3, if_pos (by omega)]
    · rw [if_neg h3, if_neg (by omega)]
theorem fR_full (f : Nat → Nat) (n : Nat) : fR n (upTo f n) = fR n f := by
  refine List.ext_getElem (by simp [fR]) fun j h1 h2 => ?_
  simp only [fR, List.getElem_map, List.getElem_range, upTo]
  rw [fR_length] at h1
  rw [if_pos h1]
theorem upTo_zero (f : Nat → Nat) : upTo f 0 = fun _ => 0 := by funext j; unfold upTo; rw [if_neg (by omega)]
set_option maxHeartbeats 16000000 in
theorem putLengths_c {w : World} {p : Nat} {A : Option Addr} {len cap m : Nat} {X : List Bool} (h : Wr w p A len cap m X) (C : Option Addr) (n c : Nat) (l : List Int) (hl : IRow w C n .i64 l) (hn : n ≤ 316) (hr : ∀ i, i < n → 0 ≤ gi l i ∧ gi l i ≤ 15) (hroom : m + 64 * n + 300 ≤ 1000000) :
    Calls Tryz.prog 44 #[.pointer (some ⟨p, 0, none⟩), .slice C n c] w fun e w' => e = .returned (.tuple #[]) ∧ ∃ A' len' cap' m' R LA, RTo l n R n ∧ MadeX (fR 19 (rF R)) 19 7 (comeN (fR 19 (rF R)) 19).length LA ∧ Wr w' p A' len' cap' m' (X ++ plB LA R) ∧ m' ≤ m + 64 * n + 100 ∧ WOut p (Value.slice A len cap).ownBlock (Value.slice A' len' cap').ownBlock w w' := by
  obtain ⟨i0, hi, hz0, hz1, hz2⟩ := info_parts info_int
  have H := Lib.hid h
  have HL := Lib.hid hl
  have HR := Lib.hid hr
  have HOC := Lib.hid (Order_c w)
  clear h hl hr
  go_enter Tryz.func44, Tryz.ntmps44
  go_wp2_with fail
  refine HOC.out.mono ?_
  rintro e _ ⟨rfl, rfl⟩
  have HO1 := Lib.hid (ordV_row w)
  have HB1 := Lib.hid (ordV_below w)
  have HS1 := Lib.hid (ordV_size w)
  generalize ordV w = w1 at *
  obtain ⟨go, hgo⟩ : ∃ go, go = w.heap.size := ⟨_, rfl⟩
  rw [← hgo] at HO1 ⊢
  have HGO := Lib.hid hgo
  clear hgo HOC
  go_wp2_with fail
  refine (runsOf_c C n c l w1 (HL.out.below HB1.out) (by omega) HR.out).mono ?_
  rintro e w2 ⟨A2, k, c2, R, rfl, hRk, hkn, hRT, hown2, hb2⟩
  have HRR := Lib.hid (RRow.ofOwn hown2 hRk)
  have HRA : Hid (∀ b, A2 = some ⟨b, 0, none⟩ → w.heap.size ≤ b) := fun b e => by
    subst e
    have h1 := (hown2.lt b rfl).1
    have h2 := HS1.out
    omega
  have HRK := Lib.hid hRk
  have HRT := Lib.hid hRT
  have HO2 := Lib.hid (HO1.out.below hb2)
  have HB2 := Lib.hid (HB1.out.trans (hb2.mono (by have := HS1.out; omega)))
  have hs12 := hb2.size
  have HGO2 : Hid (go < w2.heap.size) := by have := HS1.out; have := HGO.out; unfold Hid; omega
  clear hRk hRT hown2 hb2 HO1 HB1 HL HR hs12
  go_wp2_with (at_make; refine wpList_make_full _ rfl _ _ 41 rfl w2.heap.size 3 i0 (.int .i64 0) 1 Tryz.underlying41 hi hz0 hz1 _ _ _ _ 19 rfl rfl rfl rfl (by rw [hz2]; omega) (by unfold maxLen; omega) (Nat.le_refl _) ?_; intro w3 hown3 hgrow3)
  rw [made_iC, fR_zero] at hown3
  have HB23 : Hid (Below w2.heap.size w2 w3) := (Below.refl _ w2).grown hgrow3 (Nat.le_refl _) (fun k hk => by cases hk)
  obtain ⟨gF, hgF⟩ : ∃ g, g = w2.heap.size := ⟨_, rfl⟩
  rw [← hgF] at hown3 ⊢
  have HGF := Lib.hid hgF
  have HOWN3 := Lib.hid hown3
  clear hgF hgrow3 hown3
  go_wp2
  go_loopw [26] (fun iv wr => ∃ i : Nat, i ≤ k ∧ iv = .int .i64 i ∧ Hid (wr.ownsRow gF 3 1 (.slice (some ⟨gF, 0, none⟩) 19 19) 19 (iC (fR 19 (rF (R.take i))))) ∧ Hid (Below w2.heap.size w2 wr)) (fun iv _ => k - (intOf iv).toNat)
  case atStart => exact ⟨0, by omega, rfl, HOWN3, HB23⟩
  case round =>
    clear HOWN3 HB23
    obtain ⟨i, hik, rfl, hown, hb⟩ := hrel
    by_cases hlt : i < k
    · have hlti : (i : Int) < (k : Int) := by omega
      obtain ⟨b, rfl, hbl, c0, c1, c2⟩ := (HRR.out.below hb.out).at_ hlt
      have hrn := HRT.out.at_ (i := i) (by rw [HRK.out]; exact hlt)
      have hst : Hid (rF (R.take (i + 1)) = bump (rF (R.take i)) (rg R i).s) := rF_take (by rw [HRK.out]; exact hlt)
      have hyy : rF (R.take i) (rg R i).s ≤ 1000 := by have := rF_le (R.take i) (rg R i).s; rw [List.length_take] at this; omega
      obtain ⟨r, hrr⟩ : ∃ r, r = rg R i := ⟨_, rfl⟩
      rw [← hrr] at c0 c1 c2 hrn hst hyy
      obtain ⟨s, z, v, q⟩ := r
      have hs18 : s ≤ 18 := hrn.s
      dsimp only at c0 c1 c2 hst hyy
      obtain ⟨f, hf⟩ : ∃ f, f = rF (R.take i) := ⟨_, rfl⟩
      rw [← hf] at hown hst hyy
      clear hf hrr hrn
      have hown2 := hown.out.alloc (.cells #[.int .i64 s, .int .i64 z, .int .i64 v] 101)
      have hc := hown2.cellAt s (by omega)
      rw [iC_at (by rw [fR_length]; omega), fR_at f (by omega)] at hc
      have hfz := hown2.frozenAt s
      have HST := Lib.hid (hown2.stored s (.int .i64 ((f s : Nat) + 1 : Int))).1
      have hst2 := HST.out
      rw [fR_bump f (by omega)] at hst2
      have HST2 := Lib.hid hst2
      have HB5 := Lib.hid ((hb.out.alloc hb.out.size (.cells #[.int .i64 s, .int .i64 z, .int .i64 v] 101)).setCell (p := ⟨gF, s, none⟩) (by have := HGF.out; show w2.heap.size ≤ gF; omega) (.int .i64 ((f s : Nat) + 1 : Int)))
      obtain ⟨y, hy⟩ : ∃ y, y = f s := ⟨_, rfl⟩
      rw [← hy] at hc HST2 HB5 hyy
      have hsi : (s : Int) < 19 := by omega
      clear hown2 hst2 HST hy hown hb
      go_wp2
      go_roundw
      case rel => exact ⟨i + 1, by omega, by go_num, by rw [hst.out]; exact HST2, HB5⟩
      case measure => simp [intOf]; omega
    · obtain rfl : i = k := by omega
      have hlti : ¬ (i : Int) < (i : Int) := by omega
      rw [List.take_of_length_le (by rw [HRK.out]; exact Nat.le_refl _)] at hown
      have HCK := Lib.hid (chk_fR (n := 19) (rF R) (fun s => by have := rF_le R s; have := HRK.out; omega) (by omega) 7 (by omega) (by decide))
      have HFR := Lib.hid (fR_row hown.out (fun s => by have := rF_le R s; have := HRK.out; omega) (by omega))
      have HBR := Lib.hid hb.out
      clear hown hb
      go_wp2_with fail
      refine (best_c _ 19 _ (fR 19 (rF R)) 7 wr HFR.out HCK.out).mono ?_
      rintro e w5 ⟨gL, LA, rfl, hLR, hgL, hmx, hb5⟩
      have HB25 := Lib.hid (HBR.out.trans (hb5.mono HBR.out.size))
      have HB5 := Lib.hid (HB2.out.trans (HB25.out.mono HB2.out.size))
      have HO5 := Lib.hid (HO2.out.below HB25.out)
      have HRR5 := Lib.hid (HRR.out.below HB25.out)
      have HL5 := Lib.hid hLR
      have HMX := Lib.hid hmx
      have HGL : Hid (w.heap.size ≤ gL) := by have := HBR.out.size; have := HB2.out.size; unfold Hid; omega
      have HGO5 : Hid (w.heap.size ≤ go) := by have := HGO.out; unfold Hid; omega
      clear hLR hgL hmx hb5 HBR HB25 HO2 HRR HCK HFR HGF HGO HGO2 HB2
      go_wp2_with (at_make; refine wpList_make_full _ rfl _ _ 41 rfl w5.heap.size 3 i0 (.int .i64 0) 1 Tryz.underlying41 hi hz0 hz1 _ _ _ _ 19 rfl rfl rfl rfl (by rw [hz2]; omega) (by unfold maxLen; omega) (Nat.le_refl _) ?_; intro w6 hown6 hgrow6)
      rw [made_iC, fR_zero, ← upTo_zero (oF LA)] at hown6
      have HB56 : Hid (Below w5.heap.size w5 w6) := (Below.refl _ w5).grown hgrow6 (Nat.le_refl _) (fun k hk => by cases hk)
      obtain ⟨gI, hgI⟩ : ∃ g, g = w5.heap.size := ⟨_, rfl⟩
      rw [← hgI] at hown6 ⊢
      have HGI := Lib.hid hgI
      have HOWN6 := Lib.hid hown6
      clear hgI hgrow6 hown6
      go_wp2
      go_loopw [45] (fun iv wt => ∃ j : Nat, j ≤ 19 ∧ iv = .int .i64 j ∧ Hid (wt.ownsRow gI 3 1 (.slice (some ⟨gI, 0, none⟩) 19 19) 19 (iC (fR 19 (upTo (oF LA) j)))) ∧ Hid (Below w5.heap.size w5 wt)) (fun iv _ => 19 - (intOf iv).toNat)
      case atStart => exact ⟨0, by omega, rfl, HOWN6, HB56⟩
      case round =>
        clear HOWN6 HB56
        obtain ⟨j, hj, rfl, hown, hb⟩ := hrel
        by_cases hlt : j < 19
        · have hltj : (j : Int) < 19 := by omega
          obtain ⟨b1, o1, e1, _, q1⟩ := (HO5.out.below hb.out).at_ (i := j) hlt
          injection e1 with e1
          injection e1 with e1 e2 _
          subst e1 e2
          obtain ⟨hs1, hs2⟩ := ordN_at14 hlt
          obtain ⟨b3, o3, e3, _, q3⟩ := (HL5.out.below hb.out).at_ (i := ordN.getD j 0) hs2
          injection e3 with e3
          injection e3 with e3 e4 _
          subst e3 e4
          rw [arr_giB LA hs2] at q3
          have hof : Hid (oF LA j = LA (ordN.getD j 0)) := rfl
          obtain ⟨u, hu⟩ : ∃ u, u = LA (ordN.getD j 0) := ⟨_, rfl⟩
          rw [← hu] at q3 hof
          obtain ⟨s, hs⟩ : ∃ s, s = ordN.getD j 0 := ⟨_, rfl⟩
          rw [hs1, ← hs] at q1
          rw [← hs] at q3 hs2
          rw [Nat.zero_add] at q1 q3
          have hsi : (s : Int) < 19 := by omega
          clear hs hs1 hu
          have hc := hown.out.cellAt j (by omega)
          rw [iC_at (by rw [fR_length]; exact hlt), fR_at _ hlt] at hc
          have hfz := hown.out.frozenAt j
          have hst := (hown.out.stored j (.int .i64 (oF LA j : Nat))).1
          rw [fR_up (oF LA) hlt, hof.out] at hst
          have HST := Lib.hid hst
          have HB7 := Lib.hid (hb.out.setCell (p := ⟨gI, j, none⟩) (by have := HGI.out; show w5.heap.size ≤ gI; omega) (.int .i64 (u : Nat)))
          clear hst hown hb hof
          go_wp2
          go_roundw
          case rel => exact ⟨j + 1, by omega, by go_num, HST, HB7⟩
          case measure => simp [intOf]; omega
        · obtain rfl : j = 19 := by omega
          rw [fR_full] at hown
          have hof7 : ∀ j, oF LA j ≤ 7 := fun j => HMX.out.most _
          have HF7 := Lib.hid hof7
          have HI := Lib.hid (fR_row hown.out (fun s => by have := hof7 s; omega) (by omega))
          have HBT := Lib.hid (HB5.out.trans (hb.out.mono HB5.out.size))
          have HRRT := Lib.hid (HRR5.out.below hb.out)
          have HLT := Lib.hid (HL5.out.below hb.out)
          have HGIw : Hid (w.heap.size ≤ gI) := by have := HGI.out; have := HB5.out.size; unfold Hid; omega
          clear hown hb HO5 HRR5 HL5 HB5 HGI hof7
          go_wp2_with fail
          refine (told_c gI 19 19 (fR 19 (oF LA)) _ HI.out (Nat.le_refl _) (by unfold maxLen; omega) 4).mono ?_
          rintro e _ ⟨rfl, rfl⟩
          have ht1 := toldN_le (fR 19 (oF LA)) 4 19
          have ht2 := toldN_least (fR 19 (oF LA)) 4 19 (by omega)
          obtain ⟨tk, htk⟩ : ∃ tk, tk = toldN (fR 19 (oF LA)) 4 19 := ⟨_, rfl⟩
          rw [← htk] at ht1 ht2 ⊢
          have HTK : Hid (oN LA = tk) := htk.symm
          clear htk
          go_wp2_with fail
          obtain ⟨w7, hw7⟩ : ∃ w7, w7 = wr := ⟨_, rfl⟩
          subst hw7
          obtain ⟨tv, htv⟩ : ∃ tv, tv = tk - 4 := ⟨_, rfl⟩
          have htvi : (tk : Int) - 4 = (tv : Int) := by omega
          rw [htvi]
          have HTV := Lib.hid htv
          clear htvi htv
          have HW7 := Lib.hid (H.out.below HBT.out)
          have HNE : Hid (∀ b, w.heap.size ≤ b → b ≠ p ∧ (Value.slice A len cap).ownBlock ≠ some b) := fun b hb => ⟨by have := H.out.lt; omega, fun e => by have := (H.out.own.lt _ e).2; omega⟩
          have HU7 : Hid (∀ (W : World) (b : Option Nat), WOut p (Value.slice A len cap).ownBlock b w7 W → IRow W (some ⟨gI, 0, none⟩) 19 .i64 (fR 19 (oF LA)) ∧ IRow W (some ⟨gL, 0, none⟩) 19 .i64 (nI (arr LA 19)) ∧ RRow W A2 i R) := fun W b ho =>
            ⟨HI.out.wout ho (fun b' o e => by injection e with e; injection e with e _ _; subst e; exact HNE.out _ HGIw.out), HLT.out.wout ho (fun b' o e => by injection e with e; injection e with e _ _; subst e; exact HNE.out _ HGL.out), HRRT.out.wout ho (fun b' e => HNE.out b' (HRA.out b' e))⟩
          clear HI HLT HRRT HNE
          have htv15 : tv ≤ 15 := by have := HTV.out; omega
          refine (PutB_c HW7.out tv (by omega) 4 (by omega)).mono ?_
          rintro e w8 ⟨rfl, A8, len8, cap8, hW8, hO8⟩
          rw [show heldN 4 32 = 4 from rfl] at hW8
          have HW8 := Lib.hid hW8
          have HO8 := Lib.hid hO8
          clear hW8 hO8 HW7
          go_wp2
          go_loopw [68] (fun iv wt => ∃ (j len' cap' m' : Nat) (A' : Option Addr), j ≤ tk ∧ iv = .int .i64 j ∧ Hid (Wr wt p A' len' cap' m' (X ++ putB tv 4 ++ thB LA j)) ∧ m' ≤ m + 4 + 3 * j ∧ Hid (WOut p (Value.slice A len cap).ownBlock (Value.slice A' len' cap').ownBlock w7 wt)) (fun iv _ => tk - (intOf iv).toNat)
          case atStart => exact ⟨0, len8, cap8, m + 4, A8, by omega, rfl, by rw [show thB LA 0 = [] from rfl, List.append_nil]; exact HW8, by omega, HO8⟩
          case round =>
            clear HW8 HO8
            obtain ⟨j, len', cap', m', A', hj, rfl, hW, hm', hO⟩ := hrel
            by_cases hlt : j < tk
            · have hltj : (j : Int) < (tk : Int) := by omega
              obtain ⟨b1, o1, e1, _, q1⟩ := (HU7.out _ _ hO.out).1.at_ (i := j) (by omega)
              injection e1 with e1
              injection e1 with e1 e2 _
              subst e1 e2
              rw [fR_at _ (by omega), Nat.zero_add] at q1
              have hu7 := HF7.out j
              have hth : Hid (thB LA (j + 1) = thB LA j ++ putB (oF LA j) 3) := rfl
              obtain ⟨u, hu⟩ : ∃ u, u = oF LA j := ⟨_, rfl⟩
              rw [← hu] at q1 hu7 hth
              clear hu
              go_wp2_with fail
              refine (PutB_c hW.out u (by omega) 3 (by omega)).mono ?_
              rintro e w9 ⟨rfl, A9, len9, cap9, hW9, hO9⟩
              rw [show heldN 3 32 = 3 from rfl, List.append_assoc, ← hth.out] at hW9
              have HW9 := Lib.hid hW9
              have HO9 := Lib.hid (hO.out.trans hO9)
              clear hW9 hO9 q1 hW hO hth
              go_wp2
              go_roundw
              case rel => exact ⟨j + 1, len9, cap9, _, A9, by omega, by go_num, HW9, by omega, HO9⟩
              case measure => simp [intOf]; omega
            · obtain rfl : j = tk := by omega
              have hltj : ¬ (j : Int) < (j : Int) := by omega
              have HER := Lib.hid (HMX.out.err (by omega) (by omega))
              go_wp2_with fail
              refine (newTableB_c _ 19 _ (nI (arr LA 19)) _ (HU7.out _ _ hO.out).2.1 HER.out).mono ?_
              rintro e w9 ⟨q, gc, TA, lc, S, rfl, ht, hlo, b9⟩
              have HW9 := Lib.hid (hW.out.below b9)
              have HO9 := Lib.hid (hO.out.trans (WOut.ofBelow b9))
              have hpB := hW.out.lt
              have haB := fun g hg => (hW.out.own.lt g hg).2
              have HU9 : Hid (∀ (W : World) (b : Option Nat), WOut p (Value.slice A' len' cap').ownBlock b w9 W → TabIn W q 19 (nI (arr LA 19)) gc TA lc S ∧ RRow W A2 i R) := fun W b ho => ⟨ht.wout hlo ho hpB haB, (HU7.out W _ (HO9.out.trans ho)).2.2⟩
              have HCA := Lib.hid (codeAt_lt (l := nI (arr LA 19)) (by rw [show (nI (arr LA 19)).length = 19 by simp [nI, arr_length]]; exact HER.out))
              clear ht hlo b9 hpB haB HU7 hW hO HER
              go_wp2
              go_loopw [81] (fun iv wt => ∃ (j2 l2 c2 m2 : Nat) (A2' : Option Addr), j2 ≤ i ∧ iv = .int .i64 j2 ∧ Hid (Wr wt p A2' l2 c2 m2 (X ++ putB tv 4 ++ thB LA j ++ rnB (nI (arr LA 19)) (R.take j2))) ∧ m2 ≤ m' + 64 * j2 ∧ Hid (WOut p (Value.slice A' len' cap').ownBlock (Value.slice A2' l2 c2).ownBlock w9 wt)) (fun iv _ => i - (intOf iv).toNat)
              case atStart => exact ⟨0, len', cap', m', A', by omega, rfl, by rw [List.take_zero, show rnB (nI (arr LA 19)) [] = [] from rfl, List.append_nil]; exact HW9, by omega, WOut.refl _ _ _⟩
              case round =>
                clear HW9
                obtain ⟨j2, l2, c2', m2, A2', hj2, rfl, hW, hm2, hO⟩ := hrel
                by_cases hlt : j2 < i
                · have hltj : (j2 : Int) < (i : Int) := by omega
                  obtain ⟨b, rfl, hbl, c0, c1, c2⟩ := (HU9.out _ _ hO.out).2.at_ hlt
                  have hrn := HRT.out.at_ (i := j2) (by rw [HRK.out]; exact hlt)
                  have hst : Hid (rnB (nI (arr LA 19)) (R.take (j2 + 1)) = rnB (nI (arr LA 19)) (R.take j2) ++ symB (nI (arr LA 19)) (rg R j2).s (rg R j2).z (rg R j2).v) := by
                    unfold Hid
                    rw [take_rg (by rw [HRK.out]; exact hlt), rnB_snoc]
                  obtain ⟨r, hrr⟩ : ∃ r, r = rg R j2 := ⟨_, rfl⟩
                  rw [← hrr] at c0 c1 c2 hrn hst
                  obtain ⟨s, z, v, q2⟩ := r
                  have hs18 : s ≤ 18 := hrn.s
                  have hz7 : z ≤ 7 := hrn.z
                  have hv128 : v < 128 := hrn.v
                  dsimp only at c0 c1 c2 hst
                  clear hrr hrn
                  have HO1 := Lib.hid (hO.out.alloc (.cells #[.int .i64 s, .int .i64 z, .int .i64 v] 101))
                  have HW1 := Lib.hid (hW.out.below ((Below.refl _ _).alloc (Nat.le_refl _) (.cells #[.int .i64 s, .int .i64 z, .int .i64 v] 101)))
                  have HTB := Lib.hid (HU9.out _ _ HO1.out).1
                  have hcc := HCA.out (s : Int)
                  clear hO hW
                  go_wp2_with fail
                  refine (putSymbol_d HW1.out HTB.out (s : Int) hcc z v (by omega) (by omega)).mono ?_
                  rintro e w11 ⟨rfl, A11, l11, c11, m11, hW, hm11, hO⟩
                  rw [List.append_assoc, ← hst.out] at hW
                  have HW11 := Lib.hid hW
                  have HO11 := Lib.hid (HO1.out.trans hO)
                  clear hW hO HO1 HW1 HTB hcc c0 c1 c2
                  go_wp2
                  go_roundw
                  case rel => exact ⟨j2 + 1, l11, c11, m11, A11, by omega, by go_num, HW11, by omega, HO11⟩
                  case measure => simp [intOf]; omega
                · obtain rfl : j2 = i := by omega
                  have hltj : ¬ (j2 : Int) < (j2 : Int) := by omega
                  rw [List.take_of_length_le (by rw [HRK.out]; exact Nat.le_refl _)] at hW
                  have eX : X ++ putB tv 4 ++ thB LA j ++ rnB (nI (arr LA 19)) R = X ++ plB LA R := by
                    unfold plB
                    rw [HTK.out, ← HTV.out]
                    simp only [List.append_assoc]
                  rw [eX] at hW
                  have HOF := Lib.hid ((WOut.ofBelow HBT.out).trans (HO9.out.trans hO.out))
                  clear eX hO
                  go_wp2
                  go_end0
                  exact ⟨rfl, A2', l2, c2', m2, R, HRT.out, LA, HMX.out, hW.out, by omega, HOF.out⟩
end Go.Proofs.YthnbflkoipnakaaGreatDoor
