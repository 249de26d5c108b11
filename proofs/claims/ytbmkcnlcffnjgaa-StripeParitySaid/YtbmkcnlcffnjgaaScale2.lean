/-
  THE CONTRACT OF gf.Scale. Rows are as great as memory lets them be.
-/
import Derived.Test.YtbmkcnlcffnjgaaScale
import Derived.Deep.Heap
namespace Go.Proofs.Ytbmkcnlcffnjgaa
open Go.RowKit
set_option maxRecDepth 100000
set_option linter.unusedVariables false

theorem nib_and (v : F) : bits BinOp.and IntKind.u8 (v.n : Int) 15 = ((v.n % 16 : Nat) : Int) := by
  rw [show (15 : Int) = ((15 : Nat) : Int) from rfl, u8_and_nat _ _ v.lt (by omega), Nat.and_two_pow_sub_one_eq_mod (n := 4)]
theorem nib_xor (v x : F) : bits BinOp.xor IntKind.u8 ((gt (fourL x) (v.n % 16)).n : Int) ((gt (fourL (x * pw 2 4)) (v.n / 16)).n : Int) = ((v * x).n : Int) := by
  rw [u8_xor_nat _ _ (F.lt _) (F.lt _), nib v x, add_n]
set_option maxHeartbeats 2000000 in
theorem Scale_c (A : Option Addr) (n c : Nat) (a : List F) (x : F) (w : World) (ha : Row w A n a) (hn : n ≤ 140737488355328) :
    Calls Try.prog 58 #[.slice A n c, .int .u8 x.n] w fun e w' => ∃ g, e = .returned (.slice (some ⟨g, 0, none⟩) n n) ∧ w'.ownsRow w.heap.size 5 1 (.slice (some ⟨g, 0, none⟩) n n) n (cs (scaleF a x)) ∧ Below w.heap.size w w' := by
  have hm := ha.max
  obtain ⟨i0, hi, hz0, hz1, hz2⟩ := info_parts info_u8
  have hz := zero_16
  have HL := Lib.hid ha.len
  go_enter Try.func58, Try.ntmps58
  go_wp2_with fail
  refine (fourBits_c x w).mono ?_
  rintro e w1 ⟨rfl, hb1⟩
  have hs1 := store_new w1 (fourL x) (fourL_length x)
  have hl1 : (cs (fourL x)).length = 16 := by rw [cs_length, fourL_length]
  go_wp2_with fail
  have hB1 := Blk.new w1 83 (cs (fourL x)).toArray
  have hb1' : Below w.heap.size w (w1.alloc (.cells (cs (fourL x)).toArray 83)) := hb1.alloc hb1.size _
  have hsz : (w1.alloc (.cells (cs (fourL x)).toArray 83)).heap.size = w1.heap.size + 1 := by simp
  generalize hW : w1.alloc (.cells (cs (fourL x)).toArray 83) = W at *
  refine (fourBits_c (x * pw 2 4) W).mono ?_
  rintro e w2 ⟨rfl, hb2⟩
  have hB2 := hB1.below (by rw [hsz]; exact Nat.lt_succ_self _) hb2
  have hbel2 := hb1'.trans (hb2.mono hb1'.size)
  have hs2 := store_new w2 (fourL (x * pw 2 4)) (fourL_length _)
  have hl2 : (cs (fourL (x * pw 2 4))).length = 16 := by rw [cs_length, fourL_length]
  have hg1 : w1.heap.size < w2.heap.size := by have := hb2.size; omega
  have hg0 : w.heap.size ≤ w1.heap.size := hb1.size
  clear hW hs1 hl1 hB1 hb1' hsz hb2 hb1
  generalize w1.heap.size = g1 at *
  have hB3 : Blk (w2.alloc (.cells (cs (fourL (x * pw 2 4))).toArray 83)) g1 83 (cs (fourL x)).toArray := hB2.below hg1 ((Below.refl _ _).alloc (Nat.le_refl _) _)
  have hB4 := Blk.new w2 83 (cs (fourL (x * pw 2 4))).toArray
  have hbel3 : Below w.heap.size w (w2.alloc (.cells (cs (fourL (x * pw 2 4))).toArray 83)) := hbel2.alloc hbel2.size _
  have hg2 : w.heap.size ≤ w2.heap.size := hbel2.size
  have hsz1 : (w2.alloc (.cells (cs (fourL (x * pw 2 4))).toArray 83)).heap.size = w2.heap.size + 1 := by simp
  have hsz : w2.heap.size < (w2.alloc (.cells (cs (fourL (x * pw 2 4))).toArray 83)).heap.size := by simp
  go_wp2_with (at_make; refine wpList_make_full _ rfl _ _ 22 rfl w.heap.size 5 i0 (.int .u8 0) 1 Try.underlying22 hi hz0 hz1 _ _ _ _ n rfl rfl rfl rfl (by rw [hz2]; omega) ha.2.1 hbel3.size ?_; intro w3 hown3 hgrow3)
  have hbel4 := hbel3.grown hgrow3 hbel3.size (fun k h => by cases h)
  have hB5 := hB3.kept hgrow3 (by simp; omega)
  have hB6 := hB4.kept hgrow3 (by simp)
  have HOWN : Hid (w3.ownsRow w.heap.size 5 1 (.slice (some ⟨w2.heap.size + 1, 0, none⟩) n n) n (cs (part (scaleF a x) 0))) := by
    unfold Hid
    rw [← hsz1, part_zero, scale_length, HL.out, cs_replicate]
    have h : madeCells (Value.int .u8 0).cells (n * 1) = madeCells #[.int .u8 0] n := by rw [Nat.mul_one]; rfl
    rw [h, toList_madeCells_one] at hown3
    exact hown3
  have hg3 := hbel3.size
  clear hown3 hgrow3 hB3 hB4 hbel3 hB2 hbel2 hs2 hl2 hsz hsz1
  go_wp2
  generalize w2.heap.size = g2 at *
  go_loopw [26] (fun i wr => ∃ k : Nat, k ≤ n ∧ i = .int .i64 k ∧ wr.ownsRow w.heap.size 5 1 (.slice (some ⟨g2 + 1, 0, none⟩) n n) n (cs (part (scaleF a x) k)) ∧ Below w.heap.size w wr ∧ Blk wr g1 83 (cs (fourL x)).toArray ∧ Blk wr g2 83 (cs (fourL (x * pw 2 4))).toArray) (fun i _ => n - (intOf i).toNat)
  case atStart => exact ⟨0, by omega, rfl, HOWN.out, hbel4, hB5, hB6⟩
  case round =>
    clear hbel4 hB5 hB6
    obtain ⟨k, hk, rfl, hown, hbel, hB5, hB6⟩ := hrel
    by_cases hlt : k < n
    · obtain ⟨b1, o1, rfl, hb1, h1⟩ := ha.at_ hlt
      have hkn : (k : Int) < n := by omega
      have h1' : wr.cell? ⟨b1, o1 + k, none⟩ = some (.int .u8 (gt a k).n) := (hbel.cell (p := ⟨b1, o1 + k, none⟩) hb1).trans h1
      have hf := hown.frozenAt k
      have hl2 : Hid ((part (scaleF a x) k).length = n) := by unfold Hid; rw [part_length, scale_length, HL.out]
      have hc2 := hown.cellAt k (by omega)
      rw [cs_at (by rw [hl2.out]; exact hlt)] at hc2
      have hv := (gt a k).lt
      obtain ⟨lo, hlo⟩ : ∃ lo, lo = (gt a k).n % 16 := ⟨_, rfl⟩
      obtain ⟨hi', hhi⟩ : ∃ hi', hi' = (gt a k).n / 16 := ⟨_, rfl⟩
      have hand := nib_and (gt a k)
      rw [← hlo] at hand
      have hshr : ((gt a k).n : Int) / 16 = (hi' : Int) := by omega
      have hlo16 : (lo : Int) < 16 := by omega
      have hhi16 : (hi' : Int) < 16 := by omega
      have hc3 := hB5.cell lo
      rw [List.getElem?_toArray, cs_at (by rw [fourL_length]; omega)] at hc3
      have hc4 := hB6.cell hi'
      rw [List.getElem?_toArray, cs_at (by rw [fourL_length]; omega)] at hc4
      have hxor := nib_xor (gt a k) x
      rw [← hlo, ← hhi] at hxor
      clear hlo hhi hv
      go_wp2
      have hst := Lib.hid (hown.stored k (.int .u8 (gt a k * x).n)).1
      go_region
      go_wp2
      go_roundw
      case rel =>
        refine ⟨k + 1, by omega, by go_num, ?_, below_drewN (hbel.setCell (by show w.heap.size ≤ g2 + 1; omega) _) 1, hB5.setOther (by show g1 ≠ g2 + 1; omega) _, hB6.setOther (by show g2 ≠ g2 + 1; omega) _⟩
        have hs := hst.out
        rw [cs_set, ← gt_scale, part_set _ _ (by rw [scale_length, HL.out]; exact hlt)] at hs
        rw [← gt_scale]
        exact hs
      case measure => simp [intOf]; omega
    · have hk2 : Hid (part (scaleF a x) k = scaleF a x) := by
        unfold Hid
        rw [show k = (scaleF a x).length by rw [scale_length, HL.out]; omega, part_all]
      go_wp2
      go_ret
      refine ⟨_, rfl, ?_, hbel⟩
      rw [hk2.out] at hown
      exact hown
end Go.Proofs.Ytbmkcnlcffnjgaa
