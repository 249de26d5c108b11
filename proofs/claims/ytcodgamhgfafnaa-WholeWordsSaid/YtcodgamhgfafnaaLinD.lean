/-
  THE CONTRACTS OF PACKAGE linear: widened, Reduce, Rank, Times. Rows and columns of at most 2^30.
-/
import Derived.Test.YtcodgamhgfafnaaLinC
import Derived.Deep.OwnRows
namespace Go.Proofs.Ytcodgamhgfafnaa
open Go.RowKit
set_option maxRecDepth 100000
set_option linter.unusedVariables false

theorem RowV.ofIs {w : World} {b : Nat} {t : TypeId} {n : Nat} {f : Nat → Value} (h : w.rowIs b t n f) : RowV w b n f := by
  obtain ⟨c, hb, hn, hc⟩ := h
  exact ⟨c, t, hb, by omega, hc⟩
theorem info_bytes : (Try.prog.info? 22).map (fun i => (i.zero, i.size, i.bytes)) = some (some (.slice none 0 0), 1, 24) := by kernel_rfl
/-- the rows as a map of two places -/
def mat (R : Nat → List F) : Nat → Nat → F := fun r j => gt (R r) j
set_option maxHeartbeats 4000000 in
theorem widened_c {w : World} {A : Option Addr} {n cap L : Nat} {RA : Nat → Option Addr} {RL RC : Nat → Nat} {R : Nat → List F} (h : MIn w A n cap RA RL RC R) (hL : ∀ r, r < n → RL r = L) (more : Nat) (hn : n ≤ 1073741824) (hm : L + more ≤ 1073741824) :
    Calls Try.prog 44 #[.slice A n cap, .int .i64 more] w fun e w' => ∃ g G, e = .returned (.slice (some ⟨g, 0, none⟩) n n) ∧
      Mat w' w.heap.size w'.heap.size g n (L + more) (fun _ => L + more) G (mat R) ∧ Below w.heap.size w w' := by
  obtain ⟨C, hC⟩ : ∃ C, C = L + more := ⟨_, rfl⟩
  have hCi : (L : Int) + (more : Int) = (C : Int) := by omega
  have hC30 : C ≤ 1073741824 := by omega
  rw [← hC]
  have HL := Lib.hid hL
  have hLC : L ≤ C := by omega
  clear hL hC
  have hmk1 := run_make_row' (P := Try.prog) 68 22 (.slice none 0 0) 24 Try.underlying68 info_bytes rfl .i64 .i64 n (by omega) (by omega)
  have hmk2 := run_make_row' (P := Try.prog) 22 5 (.int .u8 0) 1 Try.underlying22 info_u8 rfl .i64 .i64 C (by omega) (by omega)
  go_enter Try.func44, Try.ntmps44
  go_wp2
  go_loopw [13] (fun i wr => ∃ k : Nat, k ≤ n ∧ i = .int .i64 k ∧ RowV wr w.heap.size n (fun r => if r < k then .slice (some ⟨w.heap.size + 1 + r, 0, none⟩) C C else .slice none 0 0) ∧
      Hid (wr.heap.size = w.heap.size + 1 + k) ∧ Hid (∀ r, r < k → RowV wr (w.heap.size + 1 + r) C fun j => .int .u8 (gt (R r) j).n) ∧ Below w.heap.size w wr) (fun i _ => n - (intOf i).toNat)
  case atStart =>
    refine ⟨0, by omega, rfl, (RowV.ofIs (World.rowIs_made w _ n _)).congr fun i hi => by rw [if_neg (by omega)], by unfold Hid; simp, fun r hr => by omega, (Below.refl _ _).alloc (Nat.le_refl _) _⟩
  case round =>
    obtain ⟨k, hk, rfl, htop, hsz, hrows, hbel⟩ := hrel
    by_cases hlt : k < n
    · have hkn : (k : Int) < n := by omega
      have hM := h.below hbel
      obtain ⟨b, o, rfl, lb, qr⟩ := hM.at_ hlt
      have hrow := hM.row k hlt
      have hRL := HL.out k hlt
      have hRLi : (RL k : Int) = (L : Int) := by omega
      have fz := htop.frozen k
      have qt := htop.cell hlt
      rw [if_neg (by omega)] at qt
      have htl := htop.lt
      have ht2 := (htop.set k (.slice (some ⟨wr.heap.size, 0, none⟩) C C)).alloc (.cells (madeCells #[.int .u8 0] C) 5)
      have hn2 : RowV ((wr.setCell ⟨w.heap.size, k, none⟩ (.slice (some ⟨wr.heap.size, 0, none⟩) C C)).alloc (.cells (madeCells #[.int .u8 0] C) 5)) wr.heap.size C (fun _ => .int .u8 0) := by
        have h1 := RowV.ofIs (World.rowIs_made (wr.setCell ⟨w.heap.size, k, none⟩ (.slice (some ⟨wr.heap.size, 0, none⟩) C C)) (.int .u8 0) C 5)
        rw [show (wr.setCell ⟨w.heap.size, k, none⟩ (.slice (some ⟨wr.heap.size, 0, none⟩) C C)).heap.size = wr.heap.size by simp [World.setCell]] at h1
        exact h1
      have hg2 : Below w.heap.size w ((wr.setCell ⟨w.heap.size, k, none⟩ (.slice (some ⟨wr.heap.size, 0, none⟩) C C)).alloc (.cells (madeCells #[.int .u8 0] C) 5)) := (hbel.setCell (Nat.le_refl _) _).alloc (by have := hbel.size; simp [World.setCell]; omega) _
      have hsrc := ((h.row k hlt).row.below hg2)
      rw [hRL] at hsrc qr
      have qt2 := ht2.cell hlt
      rw [if_pos rfl] at qt2
      have hsz2 : Hid (((wr.setCell ⟨w.heap.size, k, none⟩ (.slice (some ⟨wr.heap.size, 0, none⟩) C C)).alloc (.cells (madeCells #[.int .u8 0] C) 5)).heap.size = wr.heap.size + 1) := by unfold Hid; simp [World.setCell]
      have hold := Lib.hid (fun r (hr : r < k) => ((hrows.out r hr).setOther (a := ⟨w.heap.size, k, none⟩) (by show w.heap.size + 1 + r ≠ w.heap.size; omega) (.slice (some ⟨wr.heap.size, 0, none⟩) C C)).alloc (.cells (madeCells #[.int .u8 0] C) 5))
      obtain ⟨w3, hcp, hR3, hg3, hs3⟩ := copy_run wr.heap.size 0 L C C (RC k) C (RA k) (fun _ => .int .u8 0) (R k) (by omega) hn2 hsrc (by omega)
      have HR3 := Lib.hid hR3
      have HS3 := Lib.hid hs3
      have HG3 := Lib.hid hg3
      have HT2 := Lib.hid ht2
      have HG2 := Lib.hid hg2
      have hlen : Hid ((R k).length = L) := by unfold Hid; rw [← hRL]; exact hrow.row.len
      clear hs3 hR3 hg3 ht2 hg2 hn2 hsrc hrow
      go_wp2
      go_roundw
      case rel =>
        refine ⟨k + 1, by omega, by go_num, (HT2.out.kept HG3.out (fun e => by injection e with e; omega)).congr fun j hj => ?_, ?_, fun r hr => ?_, HG2.out.grown HG3.out (by rw [hsz2.out]; have := hbel.size; omega) (fun z e => by injection e with e; have := hbel.size; omega)⟩
        · by_cases e : j = k
          · subst e; rw [if_pos rfl, if_pos (by omega), hsz.out]
          · rw [if_neg e]
            by_cases e2 : j < k
            · rw [if_pos e2, if_pos (by omega)]
            · rw [if_neg e2, if_neg (by omega)]
        · unfold Hid
          rw [HS3.out, hsz2.out, hsz.out]
          omega
        · by_cases e : r = k
          · subst e
            rw [← hsz.out]
            refine HR3.out.congr fun j hj => ?_
            by_cases e2 : j < L
            · rw [if_pos (by omega), Nat.sub_zero]
            · rw [if_neg (by omega), gt_ge (by rw [hlen.out]; omega)]
              rfl
          · exact (hold.out r (by omega)).kept HG3.out (fun e2 => by injection e2 with e2; have := hsz.out; omega)
      case measure => simp [intOf]; omega
    · obtain rfl : k = n := by omega
      go_wp2
      go_ret
      have hs := hsz.out
      refine ⟨w.heap.size, fun r => w.heap.size + 1 + r, rfl, ⟨htop.congr fun r hr => if_pos hr, fun r hr => hrows.out r hr, fun r s _ _ e => by omega, fun r hr => by omega, ⟨Nat.le_refl _, by omega⟩, fun r hr => ⟨by omega, by omega⟩, fun r hr => ⟨Nat.le_refl _, by unfold maxLen; omega⟩, by unfold maxLen; omega, Nat.le_refl _⟩, hbel⟩
end Go.Proofs.Ytcodgamhgfafnaa
