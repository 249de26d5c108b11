/-
  THE CONTRACT OF canon.Codes. No conditions.
-/
import Derived.Test.YtbphbogolffanaaDoorCanB
import Derived.Deep.OwnRows
namespace Go.Proofs.YtbphbogolffanaaDoor
open Go.RowKit
set_option maxRecDepth 100000
set_option linter.unusedVariables false

theorem info_u32 : (Tryd.prog.info? 59).map (fun i => (i.zero, i.size, i.bytes)) = some (some (.int .u32 0), 1, 4) := by kernel_rfl
theorem own_set_ne {w : World} {base n c g : Nat} {e : TypeId} {xs : List Value} (h : w.ownsRow base e 1 (.slice (some ⟨g, 0, none⟩) n c) n xs) {a : Addr} (ha : a.block ≠ g) (u : Value) : (w.setCell a u).ownsRow base e 1 (.slice (some ⟨g, 0, none⟩) n c) n xs := by
  refine ⟨h.1, ?_⟩
  rcases h.2 with hn | ⟨g', cap, cur, hv, hbg, hg, rest⟩
  · exact .inl hn
  · have e : g' = g := by injection hv with h1; injection h1 with h2; injection h2 with h3; exact h3.symm
    subst e
    exact .inr ⟨g', cap, cur, hv, hbg, (Go.Deep.blk_setCell_other _ _ _ _ (Ne.symm ha)).trans hg, rest⟩
/-- the codes that are told by now -/
def cT (l : List Int) (k : Nat) : Nat → Nat := fun i => if i < k then codeN l i else 0
theorem cT_step (l : List Int) (k i : Nat) : cT l (k + 1) i = if i = k then codeN l k else cT l k i := by
  unfold cT
  by_cases e : i = k
  · subst e
    rw [if_pos (by omega), if_pos rfl]
  · rw [if_neg e]
    by_cases e2 : i < k
    · rw [if_pos e2, if_pos (by omega)]
    · rw [if_neg e2, if_neg (by omega)]
theorem us_zero (n : Nat) : us (fun _ => 0) n = List.replicate n (.int .u32 0) := by
  refine List.ext_getElem (by rw [us_length, List.length_replicate]) fun i h1 h2 => ?_
  simp [us]
theorem errC_zero {l : List Int} {n : Nat} (h : errC l n = 0) : n ≤ 288 ∧ RightB l n = true ∧ kr l n ≤ 32768 ∧ (kr l n = 32768 ∨ totL l n < 2) := by
  unfold errC at h
  by_cases h1 : 288 < n ∨ RightB l n = false
  · rw [if_pos h1] at h; cases h
  · rw [if_neg h1] at h
    by_cases h2 : 32768 < kr l n
    · rw [if_pos h2] at h; cases h
    · rw [if_neg h2] at h
      by_cases h3 : kr l n < 32768 ∧ 2 ≤ totL l n
      · rw [if_pos h3] at h; cases h
      · refine ⟨by omega, ?_, by omega, by omega⟩
        cases hr : RightB l n with
        | true => rfl
        | false => exact absurd (.inr hr) h1
theorem errC_le (l : List Int) (n : Nat) : errC l n ≤ 31 := by
  unfold errC
  repeat' split
  all_goals omega
/-- the first codes as they are left over, by the first k -/
def nx (l : List Int) (n k : Nat) : Nat → Nat := fun m => fK l n m + cN l k m
theorem nx_zero (l : List Int) (n : Nat) : nx l n 0 = fK l n := by
  funext m
  unfold nx cN cL
  split <;> rfl
theorem nx_step {l : List Int} {n k a : Nat} (ha : gi l k = (a : Int)) (h0 : 0 < a) (m : Nat) : nx l n (k + 1) m = if m = a then nx l n k a + 1 else nx l n k m := by
  unfold nx
  rw [cN_step ha h0]
  by_cases e : m = a
  · subst e; rw [if_pos rfl, if_pos rfl]; rfl
  · rw [if_neg e, if_neg e]
set_option maxHeartbeats 4000000 in
theorem Codes_no (A : Option Addr) (n c : Nat) (l : List Int) (w : World) (h : IRow w A n .i64 l) (he : errC l n ≠ 0) :
    Calls Tryd.prog 73 #[.slice A n c] w fun e w' => e = .returned (.tuple #[.slice none 0 0, .int .i64 (errC l n)]) ∧ Below w.heap.size w w' := by
  have hw := wrong_c A n c l w h
  obtain ⟨x, hx⟩ : ∃ x, x = errC l n := ⟨_, rfl⟩
  rw [← hx] at hw he ⊢
  have hne : ((x : Int) != 0) = true := by rw [bne_iff_ne]; omega
  have HW := Lib.hid hw
  clear hw hx he
  go_enter Tryd.func73, Tryd.ntmps73
  go_wp2_with (go_at_call 77; refine HW.out.mono ?_; rintro e w1 ⟨rfl, hb1⟩)
  go_ret2
  exact ⟨rfl, hb1⟩
set_option maxHeartbeats 4000000 in
theorem Codes_ok (A : Option Addr) (n c : Nat) (l : List Int) (w : World) (h : IRow w A n .i64 l) (he : errC l n = 0) :
    Calls Tryd.prog 73 #[.slice A n c] w fun e w' => ∃ g, e = .returned (.tuple #[.slice (some ⟨g, 0, none⟩) n n, .int .i64 0]) ∧ w'.ownsRow w.heap.size 59 1 (.slice (some ⟨g, 0, none⟩) n n) n (us (codeN l) n) ∧ Below w.heap.size w w' := by
  have hw := wrong_c A n c l w h
  obtain ⟨hn, hrb, hk, _⟩ := errC_zero he
  rw [he] at hw
  have hri : RightL l := by have := RightB_all hrb; unfold RightL; rw [h.len]; exact this
  have HRI : Hid (∀ i, i < n → 0 ≤ gi l i ∧ gi l i ≤ 15) := RightB_all hrb
  have HFI := Lib.hid (fun W (hb : Below w.heap.size w W) => firstCodes_c A n c l W (h.below hb) hri hn)
  have hlen := h.len
  have HFS : Hid (∀ j, j ≤ 15 → fK l n j + cN l n j ≤ 4718592) := by unfold Hid; rw [← hlen]; exact fun j hj => fK_small hri (by omega) j hj
  have HLEN := Lib.hid hlen
  have HW := Lib.hid hw
  obtain ⟨i0, hi, hz0, hz1, hz2⟩ := info_parts info_u32
  have hz := zero_a17
  clear hw hlen hri hrb he hk
  go_enter Tryd.func73, Tryd.ntmps73
  go_wp2_with (go_at_call 77; refine HW.out.mono ?_; rintro e w1 ⟨rfl, hb1⟩)
  refine (HFI.out w1 hb1).mono ?_
  rintro e w2 ⟨rfl, hb2⟩
  have hb12 := hb1.trans (hb2.mono hb1.size)
  have hs1 := store_new17 w2 (fK l n) w2.heap.size rfl
  have hl1 : (us (fK l n) 17).length = 17 := us_length _ _
  have hB3 := Blk.new w2 107 (us (fK l n) 17).toArray
  have hbel3 := hb12.alloc hb12.size (.cells (us (fK l n) 17).toArray 107)
  have hg2 : w.heap.size ≤ w2.heap.size := hb12.size
  have hsz : w2.heap.size < (w2.alloc (.cells (us (fK l n) 17).toArray 107)).heap.size := by simp
  clear hb1 hb2 hb12 HW HFI
  go_wp2_with (at_make; refine wpList_make_full _ rfl _ _ 65 rfl w.heap.size 59 i0 (.int .u32 0) 1 Tryd.underlying65 hi hz0 hz1 _ _ _ _ n rfl rfl rfl rfl (by rw [hz2]; omega) (by unfold maxLen; omega) hbel3.size ?_; intro w3 hown3 hgrow3)
  have hbel4 := hbel3.grown hgrow3 hbel3.size (fun k h => by cases h)
  have hB4 := hB3.kept hgrow3 (by simp)
  have HOWN : Hid (w3.ownsRow w.heap.size 59 1 (.slice (some ⟨w2.heap.size + 1, 0, none⟩) n n) n (us (cT l 0) n)) := by
    unfold Hid
    have e1 : us (cT l 0) n = List.replicate n (.int .u32 0) := by
      rw [← us_zero]
      exact us_congr fun i hi => if_neg (by omega)
    have e2 : madeCells (Value.int .u32 0).cells (n * 1) = madeCells #[.int .u32 0] n := by rw [Nat.mul_one]; rfl
    rw [e2, toList_madeCells_one] at hown3
    rw [e1]
    simpa using hown3
  have hg3 := hbel3.size
  rw [← nx_zero] at hB4
  clear hown3 hgrow3 hB3 hbel3 hs1 hl1 hsz
  go_wp2
  generalize w2.heap.size = g2 at *
  go_loopw [21] (fun i wr => ∃ k : Nat, k ≤ n ∧ i = .int .i64 k ∧ wr.ownsRow w.heap.size 59 1 (.slice (some ⟨g2 + 1, 0, none⟩) n n) n (us (cT l k) n) ∧ Below w.heap.size w wr ∧ Blk wr g2 107 (us (nx l n k) 17).toArray) (fun i _ => n - (intOf i).toNat)
  case atStart => exact ⟨0, by omega, rfl, HOWN.out, hbel4, hB4⟩
  case round =>
    clear hbel4 hB4
    obtain ⟨k, hk, rfl, hown, hbel, hB⟩ := hrel
    by_cases hlt : k < n
    · have hkn : (k : Int) < n := by omega
      have h1 := h.below hbel
      obtain ⟨b1, o1, rfl, _, q1⟩ := h1.at_ hlt
      have hg := HRI.out k hlt
      obtain ⟨a, ha⟩ : ∃ a : Nat, gi l k = a := ⟨(gi l k).toNat, by omega⟩
      rw [ha] at q1
      by_cases ha0 : 0 < a
      · have ha17 : (a : Int) < 17 := by omega
        have hai : (0 : Int) < (a : Int) := by omega
        have hc := hB.cell a
        rw [List.getElem?_toArray, us_at _ (by omega)] at hc
        have hf := hB.frozen a
        have hf2 := hown.frozenAt k
        have hc2 := hown.cellAt k (by omega)
        rw [us_at _ hlt] at hc2
        have hcode : Hid (codeN l k = nx l n k a) := by
          unfold Hid codeN nx cN
          rw [if_neg (by omega), if_neg (by omega), show lnN l k = a by unfold lnN; omega, HLEN.out]
        have hsm : nx l n k a ≤ 4718592 := by
          have h1 := HFS.out a (by omega)
          have h2 : cN l k a ≤ cN l n a := by unfold cN; split; omega; exact cL_mono l a (by omega)
          unfold nx
          omega
        have hst := Lib.hid (hown.stored k (.int .u32 ((nx l n k a : Nat) : Int))).1
        have hB1 := hB.setOther (a := Addr.mk (g2 + 1) k none) (by simp) (.int .u32 ((nx l n k a : Nat) : Int))
        have hc3 := hB1.cell a
        rw [List.getElem?_toArray, us_at _ (by omega)] at hc3
        have hf3 := hB1.frozen a
        have HB2 := Lib.hid (hB1.set_ a (.int .u32 ((nx l n k a + 1 : Nat) : Int)))
        have HB1 := Lib.hid hB1
        have HN := Lib.hid (fun m (_ : m < 17) => nx_step (n := n) ha ha0 m)
        have HC := Lib.hid (fun i (_ : i < n) => cT_step l k i)
        have HBEL := Lib.hid ((hbel.setCell (p := Addr.mk (g2 + 1) k none) (by show w.heap.size ≤ g2 + 1; omega) (.int .u32 ((nx l n k a : Nat) : Int))).setCell (p := Addr.mk g2 a none) hg2 (.int .u32 ((nx l n k a + 1 : Nat) : Int)))
        have hne : ((g2 : Nat) == g2 + 1) = false := by simp
        obtain ⟨x, hx⟩ : ∃ x, x = nx l n k a := ⟨_, rfl⟩
        have HX := Lib.hid hx
        rw [← hx] at hc hsm hst hc3 hf3 HB2 HB1 HBEL
        clear hx hB1
        go_wp2
        go_roundw
        case rel =>
          refine ⟨k + 1, by omega, by go_num, ?_, HBEL.out, ?_⟩
          · have h1 := own_set_ne hst.out (a := Addr.mk g2 a none) (by simp) (.int .u32 ((x : Int) + 1))
            rw [HX.out, us_set (g := cT l (k + 1)) (fun i hi => by rw [HC.out i hi, hcode.out])] at h1
            rw [HX.out]
            exact h1
          · have h1 := HB2.out
            rw [List.setIfInBounds_toArray, us_set (g := nx l n (k + 1)) (fun i hi => by rw [HN.out i hi, HX.out])] at h1
            exact h1
        case measure => simp [intOf]; omega
      · obtain rfl : a = 0 := by omega
        have HN : Hid (us (nx l n (k + 1)) 17 = us (nx l n k) 17) := us_congr fun m _ => by unfold nx; rw [cN_skip ha]
        have HC : Hid (us (cT l (k + 1)) n = us (cT l k) n) := us_congr fun i hi => by
          rw [cT_step]
          split
          · rename_i e
            subst e
            unfold codeN cT
            rw [if_pos (by exact ha), if_neg (by omega)]
          · rfl
        go_wp2
        go_roundw
        case rel => exact ⟨k + 1, by omega, by go_num, by rw [HC.out]; exact hown, hbel, by rw [HN.out]; exact hB⟩
        case measure => simp [intOf]; omega
    · obtain rfl : k = n := by omega
      have HC : Hid (us (cT l k) k = us (codeN l) k) := us_congr fun i hi => if_pos hi
      go_wp2
      go_ret2
      rw [HC.out] at hown
      exact ⟨_, rfl, hown, hbel⟩
end Go.Proofs.YtbphbogolffanaaDoor
