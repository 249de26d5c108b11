/-
  STRIPES: the columns that follow: the program's Parity. Columns of at most 2^30 bytes.
-/
import Derived.Test.YtbmkcnlcffnjgaaSrj
import Derived.Test.YtbmkcnlcffnjgaaSrk
namespace Go.Proofs.Ytbmkcnlcffnjgaa
open Go.RowKit
set_option maxRecDepth 100000
set_option linter.unusedVariables false

theorem RowV.alloc23 {w : World} {b n : Nat} {f : Nat → Value} (h : RowV w b n f) (o : Obj) : RowV (w.alloc o) b n f := h.of_block (heap_alloc_old w o (h := h.lt))
theorem info_bytes23 : (Try.prog.info? 22).map (fun i => (i.zero, i.size, i.bytes)) = some (some (.slice none 0 0), 1, 24) := by kernel_rfl
theorem Parity_no {w : World} {A : Option Addr} {n c : Nat} {RA : Nat → Option Addr} {RL RC : Nat → Nat} {R : Nat → List F} (h : MIn w A n c RA RL RC R) (k : Int) {x : Nat} (hx : chk23 n RL k = x) (h0 : x ≠ 0) :
    Calls Try.prog 18 #[.slice A n c, .int .i64 k] w fun e w' => e = .returned (.tuple #[.slice none 0 0, .int .i64 x]) ∧ Below w.heap.size w w' := by
  have HC := check_c h k
  rw [hx] at HC
  have e0 : ((x : Int) != 0) = true := by rw [bne_iff_ne]; omega
  have HC := Lib.hid HC
  clear h hx h0
  go_enter Try.func18, Try.ntmps18
  go_wp2_with (go_at_call 31; refine HC.out.mono ?_; rintro e w' ⟨rfl, hb⟩)
  go_ret2
  exact ⟨rfl, hb⟩
/-- what Parity answers -/
def ParR (w : World) (n k C : Nat) (R : Nat → List F) (e : Ending) (w' : World) : Prop :=
  ∃ g hi G M, e = .returned (.tuple #[.slice (some ⟨g, 0, none⟩) k k, .int .i64 0]) ∧ Mat w' w.heap.size hi g k C (fun _ => C) G M ∧ (∀ j, j < k → ∀ a, a < C → ParAt n (rowAt R n a) j (M j a)) ∧ Below w.heap.size w w'
set_option maxHeartbeats 4000000 in
theorem Parity_yes {w : World} {A : Option Addr} {n c C : Nat} {RA : Nat → Option Addr} {RL RC : Nat → Nat} {R : Nat → List F} (h : MIn w A n c RA RL RC R) (hL : ∀ r, r < n → RL r = C) (h1 : 1 ≤ n) {k : Nat} (hk : n + k ≤ 255) (hC : C ≤ 1073741824) :
    Calls Try.prog 18 #[.slice A n c, .int .i64 k] w fun e w' => ParR w n k C R e w' := by
  have HC := check_c h k
  have hx : chk23 n RL k = 0 := by
    unfold chk23
    rw [if_neg, if_neg (by omega)]
    rw [un23_no fun r hr => by rw [hL r hr, hL 0 (by omega)]]
    simp
    omega
  rw [hx] at HC
  have HC := Lib.hid HC
  have HH := Lib.hid h
  have HL := Lib.hid hL
  have hmk1 := run_make_row' (P := Try.prog) 40 22 (.slice none 0 0) 24 Try.underlying40 info_bytes23 rfl .i64 .i64 k (by omega) (by omega)
  have hmk2 := run_make_row' (P := Try.prog) 22 5 (.int .u8 0) 1 Try.underlying22 info_u8 rfl .i64 .i64 C (by omega) (by omega)
  have hc0 : ((0 : Int) != 0) = false := rfl
  clear h hL hx
  go_enter Try.func18, Try.ntmps18
  go_wp2_with fail
  refine HC.out.mono ?_
  rintro e w1 ⟨rfl, hb1⟩
  obtain ⟨b1, o1, rfl, _, q1⟩ := (HH.out.below hb1).at_ (r := 0) (by omega)
  rw [HL.out 0 (by omega), Nat.add_zero] at q1
  have h1i : (0 : Int) < (n : Int) := by omega
  have HB1 := Lib.hid hb1
  clear hb1 HC
  go_wp2
  clear q1
  go_loopw [24] (fun iv wr => ∃ j : Nat, j ≤ k ∧ iv = .int .i64 j ∧ RowV wr w1.heap.size k (fun r => if r < j then .slice (some ⟨w1.heap.size + 1 + r, 0, none⟩) C C else .slice none 0 0) ∧
      Hid (wr.heap.size = w1.heap.size + 1 + j) ∧ Hid (∀ r, r < j → RowV wr (w1.heap.size + 1 + r) C fun _ => .int .u8 ((0 : F).n)) ∧ Below w1.heap.size w1 wr) (fun iv _ => k - (intOf iv).toNat)
  case atStart =>
    refine ⟨0, by omega, rfl, (RowV_ofIs23 (World.rowIs_made w1 _ k _)).congr fun i hi => by rw [if_neg (by omega)], by unfold Hid; simp, fun r hr => by omega, (Below.refl _ _).alloc (Nat.le_refl _) _⟩
  case round =>
    obtain ⟨j, hj, rfl, htop, hsz, hrows, hbel⟩ := hrel
    by_cases hlt : j < k
    · have hkn : (j : Int) < k := by omega
      have fz := htop.frozen j
      have qt := htop.cell hlt
      rw [if_neg (by omega)] at qt
      have htl := htop.lt
      have ht2 := (htop.set j (.slice (some ⟨wr.heap.size, 0, none⟩) C C)).alloc23 (.cells (madeCells #[.int .u8 0] C) 5)
      have hn2 : RowV ((wr.setCell ⟨w1.heap.size, j, none⟩ (.slice (some ⟨wr.heap.size, 0, none⟩) C C)).alloc (.cells (madeCells #[.int .u8 0] C) 5)) wr.heap.size C (fun _ => .int .u8 0) := by
        have h1 := RowV_ofIs23 (World.rowIs_made (wr.setCell ⟨w1.heap.size, j, none⟩ (.slice (some ⟨wr.heap.size, 0, none⟩) C C)) (.int .u8 0) C 5)
        rw [show (wr.setCell ⟨w1.heap.size, j, none⟩ (.slice (some ⟨wr.heap.size, 0, none⟩) C C)).heap.size = wr.heap.size by simp [World.setCell]] at h1
        exact h1
      have hg2 : Below w1.heap.size w1 ((wr.setCell ⟨w1.heap.size, j, none⟩ (.slice (some ⟨wr.heap.size, 0, none⟩) C C)).alloc (.cells (madeCells #[.int .u8 0] C) 5)) := (hbel.setCell (Nat.le_refl _) _).alloc (by have := hbel.size; simp [World.setCell]; omega) _
      have hsz2 : Hid (((wr.setCell ⟨w1.heap.size, j, none⟩ (.slice (some ⟨wr.heap.size, 0, none⟩) C C)).alloc (.cells (madeCells #[.int .u8 0] C) 5)).heap.size = wr.heap.size + 1) := by unfold Hid; simp [World.setCell]
      have hold := Lib.hid (fun r (hr : r < j) => ((hrows.out r hr).setOther (a := ⟨w1.heap.size, j, none⟩) (by show w1.heap.size + 1 + r ≠ w1.heap.size; omega) (.slice (some ⟨wr.heap.size, 0, none⟩) C C)).alloc23 (.cells (madeCells #[.int .u8 0] C) 5))
      have HT2 := Lib.hid ht2
      have HG2 := Lib.hid hg2
      have HN2 := Lib.hid hn2
      clear ht2 hg2 hn2
      go_wp2
      go_roundw
      case rel =>
        refine ⟨j + 1, by omega, by go_num, HT2.out.congr fun i hi => ?_, ?_, fun r hr => ?_, HG2.out⟩
        · by_cases e : i = j
          · subst e; rw [if_pos rfl, if_pos (by omega), hsz.out]
          · rw [if_neg e]
            by_cases e2 : i < j
            · rw [if_pos e2, if_pos (by omega)]
            · rw [if_neg e2, if_neg (by omega)]
        · unfold Hid
          rw [hsz2.out, hsz.out]
          omega
        · by_cases e : r = j
          · subst e
            rw [← hsz.out]
            exact HN2.out
          · exact hold.out r (by omega)
      case measure => simp [intOf]; omega
    · obtain rfl : j = k := by omega
      have hs := hsz.out
      have hw1 := HB1.out.size
      have HM : Hid (Mat wr w.heap.size wr.heap.size w1.heap.size j C (fun _ => C) (fun r => w1.heap.size + 1 + r) (fun _ _ => 0)) :=
        ⟨htop.congr fun r hr => if_pos hr, fun r hr => hrows.out r hr, fun r s _ _ e => by omega, fun r hr => by omega, ⟨by omega, by omega⟩, fun r hr => ⟨by omega, by omega⟩, fun r hr => ⟨Nat.le_refl _, by unfold maxLen; omega⟩, by unfold maxLen; omega, Nat.le_refl _⟩
      have HB : Hid (Below w.heap.size w wr) := HB1.out.trans (hbel.mono hw1)
      clear htop hsz hrows hbel hs
      by_cases hj0 : j = 0
      · have hji : ((j : Int) == 0) = true := by rw [beq_iff_eq]; omega
        go_wp2
        go_ret2
        exact ⟨_, _, _, _, rfl, HM.out, fun j' h' => by omega, HB.out⟩
      · have hji : ((j : Int) == 0) = false := by rw [beq_eq_false_iff_ne]; omega
        by_cases hle : C ≤ 8 * n
        · have hlei : (C : Int) ≤ 8 * (n : Int) := by omega
          have HX := Lib.hid (layRows_c (A := some ⟨b1, o1, none⟩) (c := c) HH.out HL.out h1 hk hC HB.out HM.out HB.out.size)
          go_wp2_with (go_at_call 32; refine HX.out.mono ?_; rintro e w5 ⟨rfl, M, h5, h6, h7⟩)
          go_ret2
          exact ⟨_, _, _, M, rfl, h5, h6, h7⟩
        · have hlei : ¬ (C : Int) ≤ 8 * (n : Int) := by omega
          have HX := Lib.hid (addBits_c (A := some ⟨b1, o1, none⟩) (c := c) HH.out HL.out hk hC HB.out HM.out HB.out.size)
          go_wp2_with (go_at_call 33; refine HX.out.mono ?_; rintro e w5 ⟨rfl, M, h5, h6, h7⟩)
          go_ret2
          exact ⟨_, _, _, M, rfl, h5, h6, h7⟩
end Go.Proofs.Ytbmkcnlcffnjgaa
