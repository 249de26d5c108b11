/-
  STRIPES: what follows each row of columns, row by row: the program's layRows. Columns of at most 2^30 bytes, 255 in all.
-/
import Derived.Test.YtbmkcnlcffnjgaaSri
namespace Go.Proofs.Ytbmkcnlcffnjgaa
open Go.RowKit
set_option maxRecDepth 100000
set_option linter.unusedVariables false

set_option maxHeartbeats 4000000 in
theorem layRows_c {w0 w : World} {A : Option Addr} {n c C : Nat} {RA : Nat → Option Addr} {RL RC : Nat → Nat} {R : Nat → List F} (h : MIn w0 A n c RA RL RC R) (hL : ∀ r, r < n → RL r = C) (h1 : 1 ≤ n) {k : Nat} (hk : n + k ≤ 255) (hC : C ≤ 1073741824)
    {hi g : Nat} {K G : Nat → Nat} (hb : Below w0.heap.size w0 w) (hM : Mat w w0.heap.size hi g k C K G (fun _ _ => 0)) (hhi : w0.heap.size ≤ hi) :
    Calls Try.prog 32 #[.slice (some ⟨g, 0, none⟩) k k, .slice A n c] w fun e w' => e = .returned (.tuple #[]) ∧ ∃ M', Mat w' w0.heap.size hi g k C K G M' ∧ (∀ j, j < k → ∀ a, a < C → ParAt n (rowAt R n a) j (M' j a)) ∧ Below w0.heap.size w0 w' := by
  have hmk := run_make_row' (P := Try.prog) 22 5 (.int .u8 0) 1 Try.underlying22 info_u8 rfl .i64 .i64 n (by omega) (by omega)
  have HH := Lib.hid h
  have HL := Lib.hid hL
  obtain ⟨W1, hW1⟩ : ∃ W1, W1 = (w.alloc (.cells (madeCells #[.int .u8 0] n) 5)) := ⟨_, rfl⟩
  have hV1 : RowV W1 w.heap.size n (fun r => .int .u8 ((fun _ => 0) r : F).n) := by rw [hW1]; exact RowV_ofIs23 (World.rowIs_made w (.int .u8 0) n 5)
  have HM : Hid (Mat W1 w0.heap.size hi g k C K G (fun _ _ => 0)) := by rw [hW1]; exact hM.below ((Below.refl _ _).alloc hM.hle _)
  have HB : Hid (Below w0.heap.size w0 W1) := by rw [hW1]; exact hb.alloc (by have := hb.size; omega) _
  have hrb : hi ≤ w.heap.size := hM.hle
  have HV1 := Lib.hid hV1
  obtain ⟨b1, o1, rfl, _, q0⟩ := (HH.out.below HB.out).at_ (r := 0) (by omega)
  have hRL0 := HL.out 0 (by omega)
  rw [hRL0, Nat.add_zero] at q0
  have h1i : (0 : Int) < (n : Int) := by omega
  clear h hL hb hM hV1
  subst hW1
  go_enter Try.func32, Try.ntmps32
  go_wp2
  generalize w.alloc (.cells (madeCells #[.int .u8 0] n) 5) = W1 at *
  generalize w.heap.size = rb at *
  clear q0 hRL0
  go_loopw [19] (fun iv wr => ∃ a : Nat, a ≤ C ∧ iv = .int .i64 a ∧ ∃ (M : Nat → Nat → F) (q : Nat → F), Hid (Mat wr w0.heap.size hi g k C K G M) ∧ Hid (RowV wr rb n (fun r => .int .u8 (q r : F).n)) ∧ Hid (∀ j, j < k → ∀ b, b < a → ParAt n (rowAt R n b) j (M j b)) ∧ Hid (Below w0.heap.size w0 wr)) (fun iv _ => C - (intOf iv).toNat)
  case atStart => exact ⟨0, by omega, rfl, _, _, HM, HV1, fun j hj b hb => by omega, HB⟩
  case round =>
    clear HM HB HV1
    obtain ⟨a, ha', rfl, M, q, HM, HV, HP, HB⟩ := hrel
    by_cases hla : a < C
    · have hai : (a : Int) < (C : Int) := by omega
      have hrblt := HV.out.lt
      obtain ⟨W2, hW2⟩ : ∃ W2, W2 = wr := ⟨_, rfl⟩
      subst hW2
      go_wp2
      go_loopw [24] (fun iv wr => ∃ i : Nat, i ≤ n ∧ iv = .int .i64 i ∧ Hid (RowV wr rb n (fun r => .int .u8 ((fun r => if r < i then gt (R r) a else q r) r : F).n)) ∧ Hid (Out rb (rb + 1) W2 wr)) (fun iv _ => n - (intOf iv).toNat)
      case atStart => exact ⟨0, by omega, rfl, HV.out.congr fun r hr => by simp, Out.refl _ _ _⟩
      case round =>
        obtain ⟨i, hi', rfl, HV, HO⟩ := hrel
        have hbel : Below w0.heap.size w0 wr := HB.out.trans ((HO.out.below (by omega)).mono (by omega))
        by_cases hlt : i < n
        · have hii : (i : Int) < (n : Int) := by omega
          have hMI := HH.out.below hbel
          obtain ⟨b1', o1', e, _, q1⟩ := hMI.at_ hlt
          have hrow := (hMI.row i hlt)
          rw [HL.out i hlt] at q1 hrow
          obtain ⟨b3, o3, hA3, _, q3⟩ := hrow.row.at_ (k := a) hla
          rw [hA3] at q1
          have qc := HV.out.cell hlt
          have qf := HV.out.frozen i
          have HV2 := Lib.hid (HV.out.set i (.int .u8 (gt (R i) a).n))
          have HO2 := Lib.hid (HO.out.setCell i (.int .u8 (gt (R i) a).n))
          injection e with e
          injection e with e1 e2
          subst e1 e2
          clear hMI hrow hbel hA3
          go_wp2
          go_roundw
          case rel =>
            refine ⟨i + 1, by omega, by go_num, HV2.out.congr fun r hr => ?_, HO2.out⟩
            by_cases e : r = i
            · subst e; rw [if_pos rfl]; show _ = Value.int .u8 ((if r < r + 1 then gt (R r) a else q r : F).n : Int); rw [if_pos (by omega)]
            · rw [if_neg e]
              show Value.int .u8 ((if r < i then gt (R r) a else q r : F).n : Int) = Value.int .u8 ((if r < i + 1 then gt (R r) a else q r : F).n : Int)
              by_cases e2 : r < i
              · rw [if_pos e2, if_pos (by omega)]
              · rw [if_neg e2, if_neg (by omega)]
          case measure => simp [intOf]; omega
        · obtain rfl : i = n := by omega
          have hR3 : RowIn wr (some ⟨rb, 0, none⟩) i i (rowAt R i a) := ⟨by
            have h2 := (HV.out.congr (g := fun r => .int .u8 ((fun r => gt (R r) a) r : F).n) fun r hr => by show Value.int .u8 ((if r < i then gt (R r) a else q r : F).n : Int) = _; rw [if_pos hr]).row (by unfold maxLen; omega) (k := 0) (m := i) (by omega)
            simp only [Nat.zero_add] at h2
            exact h2, Nat.le_refl _, by unfold maxLen; omega⟩
          have HE := Lib.hid (Encode_ok (some ⟨rb, 0, none⟩) i i k (rowAt R i a) wr hR3 h1 hk)
          have HM3 : Hid (Mat wr w0.heap.size hi g k C K G M) := HM.out.below (HO.out.below (by omega) |>.mono (by omega))
          clear hR3
          go_wp2_with fail
          refine HE.out.mono ?_
          rintro e w5 ⟨g2, T, rfl, hown, htell, hb5⟩
          have hg2 : hi ≤ g2 := by have := (hown.lt g2 rfl).1; have := HM3.out.hle; omega
          have HM5 : Hid (Mat w5 w0.heap.size hi g k C K G M) := HM3.out.below (hb5.mono HM3.out.hle)
          have HB5 : Hid (Below w0.heap.size w0 w5) := hbel.trans (hb5.mono hbel.size)
          have HR5 := Lib.hid (Row.of_own hown)
          have HT := Lib.hid htell
          have HV5 : Hid (RowV w5 rb i (fun r => .int .u8 ((fun r => if r < i then gt (R r) a else q r) r : F).n)) := HV.out.below hb5 HV.out.lt
          clear hown htell hb5 HE HM3 HM HV HB HO hbel
          go_wp2
          go_loopw [46] (fun iv wr => ∃ j : Nat, j ≤ k ∧ iv = .int .i64 j ∧ ∃ M, Hid (Mat wr w0.heap.size hi g k C K G M) ∧ Hid (∀ j', j' < k → ∀ b, b < a ∨ (b = a ∧ j' < j) → ParAt i (rowAt R i b) j' (M j' b)) ∧ Hid (Out w0.heap.size hi w5 wr)) (fun iv _ => k - (intOf iv).toNat)
          case atStart => exact ⟨0, by omega, rfl, M, HM5, fun j' hj' b hb => HP.out j' hj' b (by omega), Out.refl _ _ _⟩
          case round =>
            clear HM5 HP M
            obtain ⟨j, hj', rfl, M, HM, HP, HO⟩ := hrel
            by_cases hlj : j < k
            · have hji : (j : Int) < (k : Int) := by omega
              obtain ⟨b4, o4, e4, _, q4⟩ := (HR5.out.outHi HO.out hg2).at_ (k := j) hlj
              injection e4 with e4
              injection e4 with e1 e2
              subst e1 e2
              rw [Nat.zero_add] at q4
              have qt := HM.out.topAt hlj
              have qc := HM.out.cellAt hlj hla
              have qf := (HM.out.rows j hlj).frozen a
              have HPUT := Lib.hid (HM.out.put hlj hla (gt (vals T i k) j))
              have hstep : Hid (∀ j', j' < k → ∀ b, b < a ∨ (b = a ∧ j' < j + 1) → ParAt i (rowAt R i b) j' (if j' = j then (if b = a then gt (vals T i k) j else M j b) else M j' b)) := fun j' hq b hb => by
                by_cases e : j' = j
                · subst e
                  rw [if_pos rfl]
                  by_cases e2 : b = a
                  · subst e2
                    rw [if_pos rfl]
                    exact ParAt.of HT.out hlj
                  · rw [if_neg e2]
                    exact HP.out j' hq b (by omega)
                · rw [if_neg e]
                  exact HP.out j' hq b (by omega)
              generalize gt (vals T i k) j = x at *
              clear HP
              go_wp2
              go_roundw
              case rel => exact ⟨j + 1, by omega, by go_num, _, HPUT.out.1, hstep, HO.out.trans HPUT.out.2⟩
              case measure => simp [intOf]; omega
            · obtain rfl : j = k := by omega
              go_wp2
              go_roundw
              case rel => exact ⟨a + 1, by omega, by go_num, M, _, HM, (HO.out.rowV HV5.out (.inr hrb)), fun j' hj' b hb => HP.out j' hj' b (by omega), HB5.out.trans (HO.out.below HB5.out.size)⟩
              case measure => simp [intOf]; omega
    · obtain rfl : a = C := by omega
      go_wp2
      go_end0
      exact ⟨rfl, M, HM.out, fun j hj b hb => HP.out j hj b hb, HB.out⟩
end Go.Proofs.Ytbmkcnlcffnjgaa
