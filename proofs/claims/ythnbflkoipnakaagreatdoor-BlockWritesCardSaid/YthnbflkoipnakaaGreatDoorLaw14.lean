/-
  THE DOCUMENT's OWN head, Stored. No conditions.
  THE CONTRACT OF THE DOCUMENT's Count. No conditions.
  LAW 14: what stays while another writer writes; the law's own example. No conditions (but that the tables lie as the program's text lays them).
  LAW 14: the law's own example, as a walk. No conditions (but that the tables lie as the program's text lays them).
-/
import Derived.Test.YthnbflkoipnakaaGreatDoorBlka
import Derived.Test.YthnbflkoipnakaaGreatDoorRef8
import Derived.Test.YthnbflkoipnakaaGreatDoorBlkj
import Derived.Test.YthnbflkoipnakaaGreatDoorUng
import Derived.Test.YthnbflkoipnakaaGreatDoorBlkn
import Derived.Test.YthnbflkoipnakaaGreatDoorInfX
import Derived.Lib.SlBytesConst
namespace Go.Proofs.YthnbflkoipnakaaGreatDoor
section
/- Blkb -/
open Go.RowKit
set_option maxRecDepth 1000000
set_option linter.unusedVariables false

set_option maxHeartbeats 1000000 in
theorem RHead_c (B : Option Addr) (m cb : Nat) (X : List Bool) (w : World) (hB : Row w B m (bc X)) (hm : m ≤ 900000) (last : Bool) (kind : Nat) (hk : kind < 4294967296) :
    Calls Tryz.prog 33 #[.slice B m cb, .bool last, .int .u32 kind] w fun e w' => ∃ A c, e = .returned (.slice A (m + 3) c) ∧ w'.ownsRow w.heap.size 5 1 (.slice A (m + 3) c) (m + 3) (cs (bc (X ++ headB last kind))) ∧ Below w.heap.size w w' := by
  have HB := Lib.hid hB
  clear hB
  cases last
  · go_enter Tryz.func33, Tryz.ntmps33
    go_wp2_with fail
    refine (RefPutB_c B m cb X w HB.out (by omega) 0 (by omega) 1).mono ?_
    rintro e w2 ⟨A2, c2, rfl, hown2, hb2⟩
    rw [show heldN 1 32 = 1 from rfl, show putB 0 1 = [false] from rfl] at hown2
    rw [show heldN 1 32 = 1 from rfl]
    have HR2 := Lib.hid (Row.of_own hown2)
    have HB2 := Lib.hid hb2
    clear hown2 hb2
    go_wp2_with fail
    refine (RefPutB_c A2 (m + 1) c2 _ w2 HR2.out (by omega) kind hk 2).mono ?_
    rintro e w3 ⟨A3, c3, rfl, hown3, hb3⟩
    rw [show heldN 2 32 = 2 from rfl, List.append_assoc] at hown3
    rw [show heldN 2 32 = 2 from rfl]
    have HO3 := Lib.hid (own_base hown3 HB2.out.size)
    have HB3 := Lib.hid (HB2.out.trans (hb3.mono HB2.out.size))
    clear hown3 hb3
    go_wp2
    go_ret
    exact ⟨A3, c3, rfl, HO3.out, HB3.out⟩
  · go_enter Tryz.func33, Tryz.ntmps33
    go_wp2_with fail
    refine (RefPutB_c B m cb X w HB.out (by omega) 1 (by omega) 1).mono ?_
    rintro e w2 ⟨A2, c2, rfl, hown2, hb2⟩
    rw [show heldN 1 32 = 1 from rfl, show putB 1 1 = [true] from rfl] at hown2
    rw [show heldN 1 32 = 1 from rfl]
    have HR2 := Lib.hid (Row.of_own hown2)
    have HB2 := Lib.hid hb2
    clear hown2 hb2
    go_wp2_with fail
    refine (RefPutB_c A2 (m + 1) c2 _ w2 HR2.out (by omega) kind hk 2).mono ?_
    rintro e w3 ⟨A3, c3, rfl, hown3, hb3⟩
    rw [show heldN 2 32 = 2 from rfl, List.append_assoc] at hown3
    rw [show heldN 2 32 = 2 from rfl]
    have HO3 := Lib.hid (own_base hown3 HB2.out.size)
    have HB3 := Lib.hid (HB2.out.trans (hb3.mono HB2.out.size))
    clear hown3 hb3
    go_wp2
    go_ret
    exact ⟨A3, c3, rfl, HO3.out, HB3.out⟩
set_option maxHeartbeats 2000000 in
theorem RStored_c (B : Option Addr) (m cb : Nat) (X : List Bool) (w : World) (hB : Row w B m (bc X)) (hm : m ≤ 100000) (C : Option Addr) (k ck : Nat) (l : List F) (hC : Row w C k l) (hk : k ≤ 10000) (last : Bool) :
    Calls Tryz.prog 11 #[.slice B m cb, .slice C k ck, .bool last] w fun e w' => ∃ A c n, e = .returned (.slice A n c) ∧ w'.ownsRow w.heap.size 5 1 (.slice A n c) n (cs (bc (stoB X l last))) ∧ Below w.heap.size w w' := by
  obtain ⟨i0, hi, hz0, hz1, hz2⟩ := info_parts info_u8
  have HB := Lib.hid hB
  have HC := Lib.hid hC
  have hkm := hC.max
  have HKL := Lib.hid hC.len
  obtain ⟨y, hy⟩ : ∃ y, y = 65535 - k := ⟨_, rfl⟩
  have hy1 : (65535 : Int) - (k : Int) = (y : Int) := by omega
  have HY := Lib.hid hy
  have hyb : y ≤ 65535 := by omega
  clear hB hC hy
  go_enter Tryz.func11, Tryz.ntmps11
  go_wp2_with fail
  refine (RHead_c B m cb X w HB.out (by omega) last 0 (by omega)).mono ?_
  rintro e w2 ⟨A2, c2, rfl, hown2, hb2⟩
  have HR2 := Lib.hid (Row.of_own hown2)
  have HB2 := Lib.hid hb2
  clear hown2 hb2
  go_wp2_with fail
  refine (RefAlignB_c A2 (m + 3) c2 _ w2 HR2.out (by omega)).mono ?_
  rintro e w3 ⟨A3, c3, n3, rfl, hn3, hown3, hb3⟩
  have hn3b : n3 ≤ m + 10 := by have := hn3.out; omega
  have HO3 := Lib.hid (own_base hown3 HB2.out.size)
  have HB3 := Lib.hid (HB2.out.trans (hb3.mono HB2.out.size))
  clear hown3 hb3 hn3
  go_wp2_with fail
  refine (RefPut_c k (by unfold two64; omega) 2 w3).mono ?_
  rintro e w4 ⟨A4, c4, rfl, hown4, hb4⟩
  rw [show heldN 2 8 = 2 from rfl] at hown4
  rw [show heldN 2 8 = 2 from rfl]
  have HR4 := Lib.hid (Row.of_own hown4)
  have HB4 := Lib.hid (HB3.out.trans (hb4.mono HB3.out.size))
  have HO4 := Lib.hid (own_below HO3.out hb4)
  clear hown4 hb4 HO3
  go_wp2_with fail
  refine (RefBits_c A4 2 c4 _ w4 HR4.out (by omega)).mono ?_
  rintro e w5 ⟨g5, c5, rfl, hown5, hb5⟩
  have HR5 := Lib.hid (Row.of_own hown5)
  have HB5 := Lib.hid (HB4.out.trans (hb5.mono HB4.out.size))
  have HO5 := Lib.hid (own_below HO4.out hb5)
  clear hown5 hb5 HO4
  go_wp2_with (at_builtin; refine wpList_append_row i0 hi hz0 hz1 hz2 rfl _ _ rfl w.heap.size (.slice A3 n3 c3) n3 _ rfl HO5.out (some ⟨g5, 0, none⟩) (8 * 2) c5 (bc (bitsOf (putL k 2))) rfl HR5.out (by omega) HB5.out.size ?_; intro v6 w6 hL6; obtain ⟨A6, c6, rfl, hown6, hg6, hnw6⟩ := hL6)
  have HB6 : Hid (Below w.heap.size w w6) := (HB5.out.grown hg6 HB5.out.size (fun g hg => (HO5.out.lt g hg).1))
  rw [← cs_append, ← bc_append] at hown6
  have HO6 := Lib.hid hown6
  clear hown6 hg6 hnw6 HO5 HB5 HR5
  refine (RefPut_c y (by unfold two64; omega) 2 w6).mono ?_
  rintro e w7 ⟨A7, c7, rfl, hown7, hb7⟩
  rw [show heldN 2 8 = 2 from rfl] at hown7
  rw [show heldN 2 8 = 2 from rfl]
  have HR7 := Lib.hid (Row.of_own hown7)
  have HB7 := Lib.hid (HB6.out.trans (hb7.mono HB6.out.size))
  have HO7 := Lib.hid (own_below HO6.out hb7)
  clear hown7 hb7 HO6
  go_wp2_with fail
  refine (RefBits_c A7 2 c7 _ w7 HR7.out (by omega)).mono ?_
  rintro e w8 ⟨g8, c8, rfl, hown8, hb8⟩
  have HR8 := Lib.hid (Row.of_own hown8)
  have HB8 := Lib.hid (HB7.out.trans (hb8.mono HB7.out.size))
  have HO8 := Lib.hid (own_below HO7.out hb8)
  clear hown8 hb8 HO7
  go_wp2_with (at_builtin; refine wpList_append_row i0 hi hz0 hz1 hz2 rfl _ _ rfl w.heap.size (.slice A6 (n3 + 8 * 2) c6) (n3 + 8 * 2) _ rfl HO8.out (some ⟨g8, 0, none⟩) (8 * 2) c8 (bc (bitsOf (putL y 2))) rfl HR8.out (by omega) HB8.out.size ?_; intro v9 w9 hL9; obtain ⟨A9, c9, rfl, hown9, hg9, hnw9⟩ := hL9)
  have HB9 : Hid (Below w.heap.size w w9) := (HB8.out.grown hg9 HB8.out.size (fun g hg => (HO8.out.lt g hg).1))
  rw [← cs_append, ← bc_append] at hown9
  have HO9 := Lib.hid hown9
  clear hown9 hg9 hnw9 HO8 HB8 HR8
  refine (RefBits_c C k ck l w9 (HC.out.below HB9.out) (by omega)).mono ?_
  rintro e w10 ⟨g10, c10, rfl, hown10, hb10⟩
  have HR10 := Lib.hid (Row.of_own hown10)
  have HB10 := Lib.hid (HB9.out.trans (hb10.mono HB9.out.size))
  have HO10 := Lib.hid (own_below HO9.out hb10)
  clear hown10 hb10 HO9
  go_wp2_with (at_builtin; refine wpList_append_row i0 hi hz0 hz1 hz2 rfl _ _ rfl w.heap.size (.slice A9 (n3 + 8 * 2 + 8 * 2) c9) (n3 + 8 * 2 + 8 * 2) _ rfl HO10.out (some ⟨g10, 0, none⟩) (8 * k) c10 (bc (bitsOf l)) rfl HR10.out (by omega) HB10.out.size ?_; intro v11 w11 hL11; obtain ⟨A11, c11, rfl, hown11, hg11, hnw11⟩ := hL11)
  have HB11 : Hid (Below w.heap.size w w11) := (HB10.out.grown hg11 HB10.out.size (fun g hg => (HO10.out.lt g hg).1))
  rw [← cs_append, ← bc_append] at hown11
  have e9 : alB (X ++ headB last 0) ++ bitsOf (putL k 2) ++ bitsOf (putL y 2) ++ bitsOf l = stoB X l last := by
    unfold stoB
    rw [HKL.out, HY.out]
  rw [e9] at hown11
  have HO11 := Lib.hid hown11
  clear hown11 hg11 hnw11 e9
  go_ret
  exact ⟨A11, c11, _, rfl, HO11.out, HB11.out⟩
theorem headB_length (last : Bool) (kind : Nat) : (headB last kind).length = 3 := by simp [headB, putB_length]
/-- as many bits as are told -/
theorem stoB_length (X : List Bool) (l : List F) (last : Bool) (h : l.length ≤ 65535) : ((stoB X l last).length : Int) = (X.length : Int) + stbF (l.length : Int) ((X.length % 8 : Nat) : Int) := by
  unfold stoB stbF
  simp only [List.length_append, alB_length, bitsOf_length, putL_length, headB_length]
  omega
/-- too many bytes: nothing is written -/
theorem Stored_long (P : Option Addr) (B : Option Addr) (m cb : Nat) (w : World) (last : Bool) (hm : 65535 < m) (hm2 : m ≤ 9223372036854775807) :
    Calls Tryz.prog 10 #[.pointer P, .slice B m cb, .bool last] w fun e w' => e = .returned (.int .i64 2) ∧ w = w' := by
  have h1 : (65535 : Int) < (m : Int) := by omega
  go_enter Tryz.func10, Tryz.ntmps10
  go_wp2
  go_ret
  exact ⟨rfl, rfl⟩
end
section
/- Blkp -/
open Go.RowKit
set_option maxRecDepth 1000000
set_option linter.unusedVariables false

set_option maxHeartbeats 4000000 in
theorem RCount_c (C : Option Addr) (N c : Nat) (T : List Tok) (w : World) (hT : TRow w C N T) (hN : N ≤ 100000) (hNc : N ≤ c) (hcm : c ≤ 9223372036854775807) :
    Calls Tryz.prog 23 #[.slice C N c] w fun e w' => ∃ gl gd, e = .returned (.tuple #[.slice (some ⟨gl, 0, none⟩) 286 286, .slice (some ⟨gd, 0, none⟩) 30 30]) ∧ w.heap.size ≤ gl ∧ w.heap.size ≤ gd ∧ gl ≠ gd ∧
      w'.ownsRow w.heap.size 3 1 (.slice (some ⟨gl, 0, none⟩) 286 286) 286 (iC (fR 286 (T.foldl lStep (bump (fun _ => 0) 256)))) ∧ w'.ownsRow w.heap.size 3 1 (.slice (some ⟨gd, 0, none⟩) 30 30) 30 (iC (fR 30 (T.foldl dStep fun _ => 0))) ∧ Below w.heap.size w w' := by
  have HTT := Lib.hid hT
  have hmk1 := run_make_row' (P := Tryz.prog) 41 3 (.int .i64 0) 8 Tryz.underlying41 info_int rfl .i64 .i64 286 (by omega) (by omega)
  have hmk2 := run_make_row' (P := Tryz.prog) 41 3 (.int .i64 0) 8 Tryz.underlying41 info_int rfl .i64 .i64 30 (by omega) (by omega)
  rw [show ((286 : Nat) : Int) = 286 from rfl] at hmk1
  rw [show ((30 : Nat) : Int) = 30 from rfl] at hmk2
  clear hT
  go_enter Tryz.func23, Tryz.ntmps23
  go_wp2
  go_region
  all_goals
    clear hmk1 hmk2
    first
      | (obtain ⟨W1, hW1⟩ : ∃ W1, W1 = (w.alloc (.cells (madeCells #[.int .i64 0] 286) 3)).alloc (.cells (madeCells #[.int .i64 0] 30) 3) := ⟨_, rfl⟩
         rw [← hW1]
         have HS1 : Hid (CntS w W1 w.heap.size (w.heap.size + 1) (fun _ => 0) (fun _ => 0)) := by rw [hW1]; exact cnt_start w
         obtain ⟨gd, hgd⟩ : ∃ g, g = w.heap.size + 1 := ⟨_, rfl⟩
         rw [← hgd] at HS1 ⊢
         obtain ⟨gl, hgl⟩ : ∃ g, g = w.heap.size := ⟨_, rfl⟩
         have HS0 : Hid (CntS w W1 gl gd (fun _ => 0) (fun _ => 0)) := by rw [hgl]; exact HS1.out
         rw [← hgl]
         clear hgl hgd hW1 HS1)
      | (obtain ⟨W1, hW1⟩ : ∃ W1, W1 = (w.alloc (.cells (madeCells #[.int .i64 0] 30) 3)).alloc (.cells (madeCells #[.int .i64 0] 286) 3) := ⟨_, rfl⟩
         rw [← hW1]
         have HS1 : Hid (CntS w W1 (w.heap.size + 1) w.heap.size (fun _ => 0) (fun _ => 0)) := by rw [hW1]; exact cnt_start2 w
         obtain ⟨gl, hgl⟩ : ∃ g, g = w.heap.size + 1 := ⟨_, rfl⟩
         rw [← hgl] at HS1 ⊢
         obtain ⟨gd, hgd⟩ : ∃ g, g = w.heap.size := ⟨_, rfl⟩
         have HS0 : Hid (CntS w W1 gl gd (fun _ => 0) (fun _ => 0)) := by rw [hgd]; exact HS1.out
         rw [← hgd]
         clear hgl hgd hW1 HS1)
    have HLEN := Lib.hid HTT.out.len
    obtain ⟨z0, z1⟩ := HS0.out.drew.cellL (k := 256) (by omega)
    have HSX := HS0.out.drew.bumpL (k := 256) (by omega)
    have e1 : (((fun _ => 0 : Nat → Nat) 256 : Nat) : Int) + 1 = 1 := rfl
    rw [e1] at HSX
    have HS9 := Lib.hid HSX
    clear HSX HS0
    go_wp2
    go_loopw [6] (fun iv wr => ∃ i : Nat, i ≤ N ∧ iv = .int .i64 i ∧ Hid (CntS w wr gl gd ((T.take i).foldl lStep (bump (fun _ => 0) 256)) ((T.take i).foldl dStep fun _ => 0))) (fun iv _ => N - (intOf iv).toNat)
    case atStart => exact ⟨0, by omega, rfl, HS9⟩
    case round =>
      clear HS9
      obtain ⟨i, hiN, rfl, HS⟩ := hrel
      by_cases hlt : i < N
      · have hlti : (i : Int) < (N : Int) := by omega
        obtain ⟨b, off, rfl, hbl, c0, c1, c2⟩ := (HTT.out.below HS.out.keep).at_ hlt
        obtain ⟨f, hf⟩ : ∃ f, f = (T.take i).foldl lStep (bump (fun _ => 0) 256) := ⟨_, rfl⟩
        obtain ⟨d, hd⟩ : ∃ d, d = (T.take i).foldl dStep fun _ => 0 := ⟨_, rfl⟩
        have hf2 : Hid ((T.take (i + 1)).foldl lStep (bump (fun _ => 0) 256) = lStep f (tg T i)) := by unfold Hid; rw [take_tg (by rw [HLEN.out]; exact hlt), List.foldl_append, ← hf]; rfl
        have hd2 : Hid ((T.take (i + 1)).foldl dStep (fun _ => 0) = dStep d (tg T i)) := by unfold Hid; rw [take_tg (by rw [HLEN.out]; exact hlt), List.foldl_append, ← hd]; rfl
        have HLF : Hid (∀ s, f s ≤ 100001 ∧ d s ≤ 100000) := fun s => by
          have h1 := lFold_le s (T.take i) (bump (fun _ => 0) 256)
          have h3 := bump_le (fun _ => 0) 256 s
          have h2 := dFold_le s (T.take i) (fun _ => 0)
          rw [List.length_take] at h1 h2
          rw [hf, hd]
          omega
        rw [← hf, ← hd] at HS
        clear hf hd
        have HWF := Lib.hid (HTT.out.wf i hlt)
        obtain ⟨t, htg⟩ : ∃ t, t = tg T i := ⟨_, rfl⟩
        rw [← htg] at c0 c1 c2 hf2 hd2 HWF
        obtain ⟨x, ln, dist⟩ := t
        dsimp only at c0 c1 c2
        clear htg
        by_cases h0 : ln = 0
        · have hyb : (ln == 0) = true := by rw [h0]; rfl
          have hE : Hid (lStep f ⟨x, ln, dist⟩ = bump f x.n ∧ dStep d ⟨x, ln, dist⟩ = d) := ⟨if_pos h0, if_pos h0⟩
          have hx := x.lt
          obtain ⟨k0, k1⟩ := HS.out.cellL (k := x.n) (by omega)
          have hxi : (x.n : Int) < 286 := by omega
          have HB := Lib.hid (HS.out.drew.bumpL (k := x.n) (by omega))
          have hyy := (HLF.out x.n).1
          obtain ⟨y, hy⟩ : ∃ y, y = f x.n := ⟨_, rfl⟩
          rw [← hy] at k0 HB hyy
          clear hy HLF h0
          go_wp2
          go_region
          go_wp2
          go_roundw
          case rel => exact ⟨i + 1, by omega, by go_num, by rw [hf2.out, hd2.out, hE.out.1, hE.out.2]; exact HB⟩
          case measure => simp [intOf]; omega
        · have hyb : (ln == 0) = false := by rw [beq_eq_false_iff_ne]; exact h0
          have hR1 : TRow wr (some ⟨b, off + i * 3, none⟩) 1 [⟨x, ln, dist⟩] := by
            refine ⟨rfl, by unfold maxLen; omega, fun _ => ⟨b, off + i * 3, rfl, World.block_lt_of_cell? wr _ c0, fun j hj => ?_⟩, fun j hj => ?_⟩
            · obtain rfl : j = 0 := by omega
              exact ⟨c0, c1, c2⟩
            · obtain rfl : j = 0 := by omega
              exact HWF.out
          have hic : (i : Int) + 1 ≤ (c : Int) := by omega
          have hRRc := RRight_c (some ⟨b, off + i * 3, none⟩) 1 (c - i) [⟨x, ln, dist⟩] wr hR1 (by omega)
          have hbw : b < wr.heap.size := World.block_lt_of_cell? wr _ c0
          clear hR1
          by_cases hm : IsM ⟨x, ln, dist⟩
          · have hE : Hid (lStep f ⟨x, ln, dist⟩ = bump f (lenC ln) ∧ dStep d ⟨x, ln, dist⟩ = bump d (dstC dist)) := by
              refine ⟨?_, ?_⟩
              · unfold lStep; rw [if_neg h0, if_pos hm]
              · unfold dStep; rw [if_neg h0, if_pos hm]
            have hok1 : okF [(⟨x, ln, dist⟩ : Tok)] = 1 := by unfold okF; rw [if_pos (.inr hm)]; rfl
            rw [decide_eq_true hok1] at hRRc
            have HI := Lib.hid hRRc
            obtain ⟨k1, hk1, hc1, -⟩ := len_ok (n := ln) ⟨hm.1, hm.2.1⟩
            obtain ⟨k2, hk2, hc2, -⟩ := dst_ok (n := dist) ⟨hm.2.2.1, hm.2.2.2⟩
            have hle : lenC ln < 286 := by omega
            have hde : dstC dist < 30 := by omega
            clear h0 hm hok1 hRRc hc1 hc2 hk1 hk2
            go_wp2_with fail
            refine HI.out.mono ?_
            rintro e w3 ⟨rfl, hb3⟩
            have HS3 := Lib.hid (HS.out.below hb3)
            have q1 := (hb3.cell (p := ⟨b, off + i * 3 + 1, none⟩) hbw).trans c1
            have q2 := (hb3.cell (p := ⟨b, off + i * 3 + 2, none⟩) hbw).trans c2
            have HLC := Lib.hid (RefLength_c ln w3)
            have HDC := Lib.hid (RefDist_c dist w3)
            generalize lenC ln = e1 at *
            generalize lenX ln = s1 at *
            generalize lenV ln = v1 at *
            generalize dstC dist = e2 at *
            generalize dstX dist = s2 at *
            generalize dstV dist = v2 at *
            have hy1 := (HLF.out e1).1
            have hy2 := (HLF.out e2).2
            obtain ⟨k0, k1⟩ := HS3.out.cellL hle
            have HB1 := Lib.hid (HS3.out.bumpL hle)
            obtain ⟨j0, j1⟩ := HB1.out.cellD hde
            have HB := Lib.hid (HB1.out.bumpD hde)
            obtain ⟨y, hy⟩ : ∃ y, y = f e1 := ⟨_, rfl⟩
            rw [← hy] at k0 HB1 HB hy1 j0 j1
            obtain ⟨u, hu⟩ : ∃ u, u = d e2 := ⟨_, rfl⟩
            rw [← hu] at j0 HB hy2
            have hei : (e1 : Int) < 286 := by omega
            have hdi : (e2 : Int) < 30 := by omega
            clear hy hu HLF HI hb3 c0 c1 c2
            go_wp2_with fail
            refine HLC.out.mono ?_
            rintro e _ ⟨rfl, rfl⟩
            go_wp2_with fail
            refine HDC.out.mono ?_
            rintro e _ ⟨rfl, rfl⟩
            go_wp2
            go_roundw
            case rel => exact ⟨i + 1, by omega, by go_num, by rw [hf2.out, hd2.out, hE.out.1, hE.out.2]; exact HB⟩
            case measure => simp [intOf]; omega
          · have hE : Hid (lStep f ⟨x, ln, dist⟩ = f ∧ dStep d ⟨x, ln, dist⟩ = d) := by
              refine ⟨?_, ?_⟩
              · unfold lStep; rw [if_neg h0, if_neg hm]
              · unfold dStep; rw [if_neg h0, if_neg hm]
            have hok1 : ¬ okF [(⟨x, ln, dist⟩ : Tok)] = 1 := by unfold okF; rw [if_neg (fun e => e.elim (fun e => h0 e) hm)]; omega
            rw [decide_eq_false hok1] at hRRc
            have HI := Lib.hid hRRc
            clear h0 hm hok1 hRRc
            go_wp2_with fail
            refine HI.out.mono ?_
            rintro e w3 ⟨rfl, hb3⟩
            have HS3 := Lib.hid (HS.out.below hb3)
            clear HI hb3 HLF c0 c1 c2
            go_wp2
            go_roundw
            case rel => exact ⟨i + 1, by omega, by go_num, by rw [hf2.out, hd2.out, hE.out.1, hE.out.2]; exact HS3⟩
            case measure => simp [intOf]; omega
      · obtain rfl : i = N := by omega
        have hlti : ¬ (i : Int) < (i : Int) := by omega
        rw [List.take_of_length_le (by rw [HLEN.out]; exact Nat.le_refl _)] at HS
        go_wp2
        go_ret2
        exact ⟨gl, gd, rfl, (HS.out.lits.lt gl rfl).1, (HS.out.dists.lt gd rfl).1, HS.out.ne, HS.out.lits, HS.out.dists, HS.out.keep⟩
end
section
/- Blkq -/
open Go.RowKit
set_option maxRecDepth 1000000
set_option linter.unusedVariables false

theorem TRow.wout {w w' : World} {C : Option Addr} {N p : Nat} {T : List Tok} {a b : Option Nat} (h : TRow w C N T) (ho : WOut p a b w w') (hA : ∀ b o, C = some ⟨b, o, none⟩ → b ≠ p ∧ a ≠ some b) : TRow w' C N T :=
  ⟨h.len, h.max, fun hn => by
    obtain ⟨b, off, e, hl, hc⟩ := h.top hn
    obtain ⟨h1, h2⟩ := hA b off e
    have hk := ho.block b hl h1 h2
    refine ⟨b, off, e, by have := ho.size; omega, fun i hi => ?_⟩
    obtain ⟨c0, c1, c2⟩ := hc i hi
    exact ⟨(World.cell?_of_block (a := ⟨b, off + i * 3, none⟩) hk).trans c0, (World.cell?_of_block (a := ⟨b, off + i * 3 + 1, none⟩) hk).trans c1, (World.cell?_of_block (a := ⟨b, off + i * 3 + 2, none⟩) hk).trans c2⟩, h.wf⟩
theorem Row.wout {w w' : World} {C : Option Addr} {N p : Nat} {l : List F} {a b : Option Nat} (h : Row w C N l) (ho : WOut p a b w w') (hA : ∀ b o, C = some ⟨b, o, none⟩ → b ≠ p ∧ a ≠ some b) : Row w' C N l :=
  ⟨h.1, h.2.1, fun hn => by
    obtain ⟨b, off, e, hl, hc⟩ := h.2.2 hn
    obtain ⟨h1, h2⟩ := hA b off e
    exact ⟨b, off, e, by have := ho.size; omega, fun i hi => (World.cell?_of_block (a := ⟨b, off + i, none⟩) (ho.block b hl h1 h2)).trans (hc i hi)⟩⟩
theorem RowIn.wout {w w' : World} {C : Option Addr} {N c p : Nat} {l : List F} {a b : Option Nat} (h : RowIn w C N c l) (ho : WOut p a b w w') (hA : ∀ b o, C = some ⟨b, o, none⟩ → b ≠ p ∧ a ≠ some b) : RowIn w' C N c l := ⟨h.row.wout ho hA, h.le, h.max⟩
/-- a writer stays while another one writes -/
theorem Wr.woutO {w w' : World} {q p : Nat} {B : Option Addr} {len cap n : Nat} {X : List Bool} {a b : Option Nat} (h : Wr w q B len cap n X) (ho : WOut p a b w w') (h1 : q ≠ p) (h2 : a ≠ some q) (h3 : ∀ g, (Value.slice B len cap).ownBlock = some g → g ≠ p ∧ a ≠ some g) : Wr w' q B len cap n X :=
  ⟨h.blk.woutK ho h1 h2, own_blk h.own fun g hg => ho.block g (h.own.lt g hg).2 (h3 g hg).1 (h3 g hg).2, h.hl, h.hn, h.few⟩
/-- a writer, but for where its bytes lie -/
def Wx (w : World) (lo p : Nat) (X : List Bool) : Prop := ∃ A len cap n, Wr w p A len cap n X ∧ ∀ g, (Value.slice A len cap).ownBlock = some g → lo ≤ g
theorem Wx.below {w w' : World} {lo p : Nat} {X : List Bool} (h : Wx w lo p X) (hb : Below w.heap.size w w') : Wx w' lo p X := by
  obtain ⟨A, len, cap, n, h1, h2⟩ := h
  exact ⟨A, len, cap, n, h1.below hb, h2⟩
/-- another one, that was new, has written -/
theorem Wx.other {w w' : World} {lo p q : Nat} {X : List Bool} {b : Option Nat} (h : Wx w lo p X) (ho : WOut q none b w w') (h1 : p ≠ q) (h2 : q < lo) : Wx w' lo p X := by
  obtain ⟨A, len, cap, n, h3, h4⟩ := h
  exact ⟨A, len, cap, n, h3.woutO ho h1 (by simp) (fun g hg => ⟨by have := h4 g hg; omega, by simp⟩), h4⟩
theorem tok1_row (w : World) (t : Tok) (hw : TokWf t) (g : Nat) (hg : w.heap.size = g) : TRow (w.alloc (.cells #[.int .u8 t.lit.n, .int .i64 t.len, .int .i64 t.dist] 53)) (some ⟨g, 0, none⟩) 1 [t] := by
  subst hg
  have hk := (Blk.new w 53 #[.int .u8 t.lit.n, .int .i64 t.len, .int .i64 t.dist]).trip
  refine ⟨rfl, by unfold maxLen; omega, fun _ => ⟨w.heap.size, 0, rfl, by simp, fun i hi => ?_⟩, fun i hi => ?_⟩
  · obtain rfl : i = 0 := by omega
    exact hk.1
  · obtain rfl : i = 0 := by omega
    exact hw
theorem lit1_row (w : World) (x : F) (g : Nat) (hg : w.heap.size = g) : RowIn (w.alloc (.cells #[.int .u8 x.n] 5)) (some ⟨g, 0, none⟩) 1 1 [x] :=
  ⟨row_lit w [x] 1 g rfl hg.symm (by show 1 ≤ maxLen; decide) _ rfl 5, Nat.le_refl _, by unfold maxLen; omega⟩

/-! ### The example -/
def tA : Tok := ⟨ofN 65, 0, 0⟩
theorem exA_fix : (strB (pack (fixB [tA] true))).toList = [115, 4, 0] := by decide +kernel
theorem exA_sto : (strB (pack (stoB [] [ofN 65] true))).toList = [1, 1, 0, 254, 255, 65] := by decide +kernel
theorem exA_len : (fixB [tA] false).length = 18 := by decide +kernel
theorem exA_dyn {Y : List Bool} (h : DynY [tA] true Y) : unpF (pack Y) 9 = .ok ⟨Y.length, [ofN 65]⟩ := by
  have h1 := (UpTo.nil 9).done (BkS.dyn (X := []) (o := []) (o2 := [ofN 65]) (M := 9) (by rfl) h)
  simpa using h1
end
section
/- Law14 -/
open Go.RowKit
set_option maxRecDepth 1000000
set_option linter.unusedVariables false

theorem Wr.x {w : World} {lo p : Nat} {A : Option Addr} {len cap n : Nat} {X : List Bool} (h : Wr w p A len cap n X) (hlo : ∀ g, (Value.slice A len cap).ownBlock = some g → lo ≤ g) : Wx w lo p X := ⟨A, len, cap, n, h, hlo⟩
/-- a writer that was new has written: what it owns now is newer -/
theorem WOut.lo {w w' : World} {p : Nat} {A : Option Addr} {len cap lo : Nat} (ho : WOut p (Value.slice none 0 0).ownBlock (Value.slice A len cap).ownBlock w w') (hl : lo ≤ w.heap.size) : ∀ g, (Value.slice A len cap).ownBlock = some g → lo ≤ g := fun g hg => by
  rcases ho.nw with h | h
  · rw [h] at hg; simp [Value.ownBlock] at hg
  · exact Nat.le_trans hl (h g hg)
theorem own_noneB : (Value.slice none 0 0).ownBlock = none := rfl
/-- three new writers -/
structure New3 (w : World) (W : World) : Prop where
  bel : Below w.heap.size w W
  tab : Tabs W
  f1 : Wr W w.heap.size none 0 0 0 []
  f2 : Wr W (w.heap.size + 1) none 0 0 0 []
  f3 : Wr W (w.heap.size + 1 + 1) none 0 0 0 []
theorem New3.new (w : World) (ht : Tabs w) : New3 w (((w.alloc (.cells #[.slice none 0 0, .int .i64 0] 48)).alloc (.cells #[.slice none 0 0, .int .i64 0] 48)).alloc (.cells #[.slice none 0 0, .int .i64 0] 48)) := by
  have k1 := Wr.fresh w #[.slice none 0 0, .int .i64 0] rfl
  have k2 := Wr.fresh (w.alloc (.cells #[.slice none 0 0, .int .i64 0] 48)) #[.slice none 0 0, .int .i64 0] rfl
  have k3 := Wr.fresh ((w.alloc (.cells #[.slice none 0 0, .int .i64 0] 48)).alloc (.cells #[.slice none 0 0, .int .i64 0] 48)) #[.slice none 0 0, .int .i64 0] rfl
  rw [World.size_alloc] at k2
  rw [World.size_alloc, World.size_alloc] at k3
  have hb : Below w.heap.size w (((w.alloc (.cells #[.slice none 0 0, .int .i64 0] 48)).alloc (.cells #[.slice none 0 0, .int .i64 0] 48)).alloc (.cells #[.slice none 0 0, .int .i64 0] 48)) := (((Below.refl w.heap.size w).alloc (Nat.le_refl _) _).alloc (by simp) _).alloc (by simp; omega) _
  exact ⟨hb, ht.below hb, (k1.below ((Below.refl _ _).alloc (Nat.le_refl _) _)).below ((Below.refl _ _).alloc (Nat.le_refl _) _), k2.below ((Below.refl _ _).alloc (Nat.le_refl _) _), k3⟩
theorem New3.go {w W W' : World} (h : New3 w W) (hb : Below W.heap.size W W') : New3 w W' := ⟨h.bel.trans (hb.mono h.bel.size), h.tab.below hb, h.f1.below hb, h.f2.below hb, h.f3.below hb⟩
theorem New3.alloc {w W : World} (h : New3 w W) (o : Obj) : New3 w (W.alloc o) := h.go ((Below.refl _ _).alloc (Nat.le_refl _) o)
/-- three writers that have written -/
structure Don3 (w : World) (X1 X2 X3 : List Bool) (W : World) : Prop where
  bel : Below w.heap.size w W
  tab : Tabs W
  x1 : Wx W (w.heap.size + 1 + 1 + 1) w.heap.size X1
  x2 : Wx W (w.heap.size + 1 + 1 + 1) (w.heap.size + 1) X2
  x3 : Wx W (w.heap.size + 1 + 1 + 1) (w.heap.size + 1 + 1) X3
theorem Don3.go {w W W' : World} {X1 X2 X3 : List Bool} (h : Don3 w X1 X2 X3 W) (hb : Below W.heap.size W W') : Don3 w X1 X2 X3 W' := ⟨h.bel.trans (hb.mono h.bel.size), h.tab.below hb, h.x1.below hb, h.x2.below hb, h.x3.below hb⟩
theorem Don3.alloc {w W : World} {X1 X2 X3 : List Bool} (h : Don3 w X1 X2 X3 W) (o : Obj) : Don3 w X1 X2 X3 (W.alloc o) := h.go ((Below.refl _ _).alloc (Nat.le_refl _) o)
theorem none_no {g : Nat} (h : (Value.slice none 0 0).ownBlock = some g) : False := by simp [Value.ownBlock] at h
theorem none_ne (g : Nat) : (Value.slice none 0 0).ownBlock ≠ some g := fun h => none_no h
theorem at_ne {g p b o : Nat} (h : g ≠ p) (e : (some (⟨g, 0, none⟩ : Addr)) = some ⟨b, o, none⟩) : b ≠ p ∧ (Value.slice none 0 0).ownBlock ≠ some b := by
  injection e with e
  injection e with e1 _ _
  subst e1
  exact ⟨h, none_ne _⟩
theorem tA_row (w : World) (g : Nat) (hg : w.heap.size = g) : TRow (w.alloc (.cells #[.int .u8 65, .int .i64 0, .int .i64 0] 53)) (some ⟨g, 0, none⟩) 1 [tA] := tok1_row w tA ⟨rfl, rfl⟩ g hg
theorem tB_row (w : World) (g : Nat) (hg : w.heap.size = g) : TRow (w.alloc (.cells #[.int .u8 0, .int .i64 1, .int .i64 0] 53)) (some ⟨g, 0, none⟩) 1 [⟨ofN 0, 1, 0⟩] := tok1_row w ⟨ofN 0, 1, 0⟩ ⟨rfl, rfl⟩ g hg
/-- Fixed and Dynamic of the example's row, by a new writer -/
theorem fixA_c {W : World} {p g : Nat} (h : Wr W p none 0 0 0 []) (ht : Tabs W) (hT : TRow W (some ⟨g, 0, none⟩) 1 [tA]) (hp : 1 < p) (hg : g ≠ p) :
    Calls Tryz.prog 17 #[.pointer (some ⟨p, 0, none⟩), .slice (some ⟨g, 0, none⟩) 1 1, .bool true] W fun e w' => e = .returned (.int .i64 0) ∧ ∃ A' len' cap' m', Wr w' p A' len' cap' m' (fixB [tA] true) ∧ WOut p (Value.slice none 0 0).ownBlock (Value.slice A' len' cap').ownBlock W w' :=
  FixedB_j h (some ⟨g, 0, none⟩) 1 1 [tA] (fun W' b ho => ⟨ht.woutK ho hp (fun x hx => (none_no hx).elim), hT.wout ho (fun b' o e => at_ne hg e)⟩) (by omega) rfl true (by simp)
theorem dynA_c {W : World} {p g : Nat} (h : Wr W p none 0 0 0 []) (ht : Tabs W) (hT : TRow W (some ⟨g, 0, none⟩) 1 [tA]) (hp : 1 < p) (hg : g ≠ p) :
    Calls Tryz.prog 20 #[.pointer (some ⟨p, 0, none⟩), .slice (some ⟨g, 0, none⟩) 1 1, .bool true] W fun e w' => e = .returned (.int .i64 0) ∧ ∃ A' len' cap' m' Y, DynY [tA] true Y ∧ Wr w' p A' len' cap' m' Y ∧ WOut p (Value.slice none 0 0).ownBlock (Value.slice A' len' cap').ownBlock W w' :=
  (DynamicB_j h (some ⟨g, 0, none⟩) 1 1 [tA] (fun W' b ho => ⟨ht.woutK ho hp (fun x hx => (none_no hx).elim), hT.wout ho (fun b' o e => at_ne hg e)⟩) (by omega) rfl true (by simp)).mono fun e w' ⟨he, A', len', cap', m', LL, LD, R, LA, h1, h2, h3, h4, hW, hO⟩ =>
    ⟨he, A', len', cap', m', _, ⟨LL, LD, LA, R, h1, h2, h3, h4, rfl⟩, by rwa [List.nil_append] at hW, hO⟩
theorem stoA_c {W : World} {p g : Nat} (h : Wr W p none 0 0 0 []) (hl : RowIn W (some ⟨g, 0, none⟩) 1 1 [ofN 65]) (hg : g ≠ p) :
    Calls Tryz.prog 10 #[.pointer (some ⟨p, 0, none⟩), .slice (some ⟨g, 0, none⟩) 1 1, .bool true] W fun e w' => e = .returned (.int .i64 0) ∧ ∃ A' len' cap' m', Wr w' p A' len' cap' m' (stoB [] [ofN 65] true) ∧ WOut p (Value.slice none 0 0).ownBlock (Value.slice A' len' cap').ownBlock W w' :=
  Stored_j h (some ⟨g, 0, none⟩) 1 1 [ofN 65] (fun W' b ho => hl.wout ho (fun b' o e => at_ne hg e)) (by omega) true (by simp)
theorem lit1_rowM (w : World) (x : F) (g : Nat) (hg : w.heap.size = g) (fz : Nat × Nat) : RowIn (w.alloc (.cells #[.int .u8 x.n] 5 fz)) (some ⟨g, 0, none⟩) 1 1 [x] := by
  subst hg
  refine ⟨⟨rfl, by show 1 ≤ maxLen; decide, fun _ => ⟨w.heap.size, 0, rfl, by simp, fun i hi => ?_⟩⟩, Nat.le_refl _, by unfold maxLen; omega⟩
  obtain rfl : i = 0 := by omega
  have h := heap_alloc_new w (.cells #[.int .u8 x.n] 5 fz)
  rw [Nat.zero_add, cell_of_row _ _ 0 _ 5 fz h]
  rfl
set_option maxHeartbeats 16000000 in
theorem alive14_c (w : World) (ht : Tabs w) : Calls Tryz.prog 8 #[] w fun e w' => e = .returned (.bool true) ∧ Below w.heap.size w w' := by
  have hp2 : 1 < w.heap.size := ht.size
  have N0 := Lib.hid (New3.new w ht)
  have HS0 : Hid ((((w.alloc (.cells #[.slice none 0 0, .int .i64 0] 48)).alloc (.cells #[.slice none 0 0, .int .i64 0] 48)).alloc (.cells #[.slice none 0 0, .int .i64 0] 48)).heap.size = w.heap.size + 1 + 1 + 1) := by unfold Hid; simp
  have hcv := fun (w : World) (C : Array Value) (n c : Nat) => Lib.run_convert_bytes_const (P := Tryz.prog) w 22 5 C n c Tryz.underlying22 Tryz.underlying5
  clear ht
  go_enter Tryz.func8, Tryz.ntmps8
  go_wp2_with fail
  generalize (((w.alloc (.cells #[.slice none 0 0, .int .i64 0] 48)).alloc (.cells #[.slice none 0 0, .int .i64 0] 48)).alloc (.cells #[.slice none 0 0, .int .i64 0] 48)) = W0 at *
  have T1 := Lib.hid (tA_row W0 _ HS0.out)
  have N1 := Lib.hid (N0.out.alloc (.cells #[.int .u8 65, .int .i64 0, .int .i64 0] 53))
  have hs1 : Hid (w.heap.size + 1 + 1 + 1 ≤ (W0.alloc (.cells #[.int .u8 65, .int .i64 0, .int .i64 0] 53)).heap.size) := by unfold Hid; rw [World.size_alloc, HS0.out]; omega
  generalize W0.alloc (.cells #[.int .u8 65, .int .i64 0, .int .i64 0] 53) = W1 at *
  clear N0 HS0
  refine (fixA_c N1.out.f1 N1.out.tab T1.out hp2 (by omega)).mono ?_
  rintro e W2 ⟨rfl, A1, len1, cap1, m1, hW1, hO1⟩
  have X1 := Lib.hid (hW1.x (hO1.lo hs1.out))
  have F2 := Lib.hid (N1.out.f2.woutO hO1 (by omega) (none_ne _) (fun g hg => (none_no hg).elim))
  have F3 := Lib.hid (N1.out.f3.woutO hO1 (by omega) (none_ne _) (fun g hg => (none_no hg).elim))
  have B2 := Lib.hid (N1.out.f1.keeps hO1 N1.out.bel (Nat.le_refl _))
  have HT2 := Lib.hid (N1.out.tab.woutK hO1 hp2 (fun x hx => (none_no hx).elim))
  have hs2 : Hid (w.heap.size + 1 + 1 + 1 ≤ W2.heap.size) := Nat.le_trans hs1.out hO1.size
  clear hW1 hO1 N1 T1 hs1
  go_wp2_with fail
  have L3 := Lib.hid (lit1_rowM W2 (ofN 65) _ rfl (1, 2))
  have B3 := Lib.hid (B2.out.alloc B2.out.size (.cells #[.int .u8 65] 5 (1, 2)))
  have hba := (Below.refl W2.heap.size W2).alloc (Nat.le_refl _) (.cells #[.int .u8 65] 5 (1, 2))
  have X13 := Lib.hid (X1.out.below hba)
  have F23 := Lib.hid (F2.out.below hba)
  have F33 := Lib.hid (F3.out.below hba)
  have HT3 := Lib.hid (HT2.out.below hba)
  have hs3 : Hid (w.heap.size + 1 + 1 + 1 ≤ (W2.alloc (.cells #[.int .u8 65] 5 (1, 2))).heap.size) := Nat.le_trans hs2.out hba.size
  clear hba X1 F2 F3 HT2 B2
  refine (stoA_c F23.out L3.out (by have := hs2.out; omega)).mono ?_
  generalize W2.alloc (.cells #[.int .u8 65] 5 (1, 2)) = W3 at *
  rintro e W4 ⟨rfl, A2, len2, cap2, m2, hW2, hO2⟩
  have X2 := Lib.hid (hW2.x (hO2.lo hs3.out))
  have X14 := Lib.hid (X13.out.other hO2 (by omega) (by omega))
  have F3 := Lib.hid (F33.out.woutO hO2 (by omega) (none_ne _) (fun g hg => (none_no hg).elim))
  have B4 := Lib.hid (F23.out.keeps hO2 B3.out (by omega))
  have HT4 := Lib.hid (HT3.out.woutK hO2 (by omega) (fun x hx => (none_no hx).elim))
  have hs4 : Hid (w.heap.size + 1 + 1 + 1 ≤ W4.heap.size) := Nat.le_trans hs3.out hO2.size
  clear hW2 hO2 L3 B3 X13 F23 F33 HT3 hs3 hs2
  go_wp2_with fail
  have T5 := Lib.hid (tA_row W4 _ rfl)
  have hba := (Below.refl W4.heap.size W4).alloc (Nat.le_refl _) (.cells #[.int .u8 65, .int .i64 0, .int .i64 0] 53)
  have X15 := Lib.hid (X14.out.below hba)
  have X25 := Lib.hid (X2.out.below hba)
  have F35 := Lib.hid (F3.out.below hba)
  have HT5 := Lib.hid (HT4.out.below hba)
  have B5 := Lib.hid (B4.out.trans (hba.mono B4.out.size))
  have hs5 : Hid (w.heap.size + 1 + 1 + 1 ≤ (W4.alloc (.cells #[.int .u8 65, .int .i64 0, .int .i64 0] 53)).heap.size) := Nat.le_trans hs4.out hba.size
  clear hba X14 X2 F3 HT4 B4
  refine (dynA_c F35.out HT5.out T5.out (by omega) (by have := hs4.out; omega)).mono ?_
  generalize W4.alloc (.cells #[.int .u8 65, .int .i64 0, .int .i64 0] 53) = W5 at *
  rintro e W6 ⟨rfl, A3, len3, cap3, m3, Y, hY, hW3, hO3⟩
  have D6 : Hid (Don3 w (fixB [tA] true) (stoB [] [ofN 65] true) Y W6) := ⟨F35.out.keeps hO3 B5.out (by omega), HT5.out.woutK hO3 (by omega) (fun x hx => (none_no hx).elim), X15.out.other hO3 (by omega) (by omega), X25.out.other hO3 (by omega) (by omega), hW3.x (hO3.lo hs5.out)⟩
  have HY := Lib.hid hY
  clear hW3 hO3 T5 B5 X15 X25 F35 HT5 hs5 hs4 hY
  go_wp2_with fail
  obtain ⟨A3, len3, cap3, m3, hW3, -⟩ := D6.out.x3
  have hl3 := hW3.hl.out
  refine (DoneB_c hW3).mono ?_
  rintro e W7 ⟨A7, c7, rfl, hown7, hb7⟩
  have D7 := Lib.hid (D6.out.go hb7)
  have hu7 := HY.out.le
  have hl30 : len3 ≤ 10000 := by rw [hl3]; simp at hu7; omega
  have HR7 := Lib.hid (RefUnpack_c W7 A7 len3 c7 (pack Y) (own_in hown7) hl30 9 9 rfl (by omega))
  clear hb7 hW3 hl3 hu7 hl30 hown7 D6
  go_wp2_with fail
  refine HR7.out.mono ?_
  rintro e W8 hU
  rw [exA_dyn HY.out] at hU
  rcases hU with ⟨z, h1, _⟩ | ⟨u, A8, n8, c8, h1, rfl, hown8, hb8⟩
  · cases h1
  injection h1 with h1
  subst h1
  obtain rfl : n8 = 1 := by have := own_len hown8; simpa using this.symm
  have D8 := Lib.hid (D7.out.go hb8)
  have O8 := Lib.hid hown8
  clear hown8 hb8 D7 HR7
  go_wp2_with fail
  have TB := Lib.hid (tB_row W8 _ rfl)
  have D9 := Lib.hid (D8.out.alloc (.cells #[.int .u8 0, .int .i64 1, .int .i64 0] 53))
  have O9 := Lib.hid (own_below O8.out ((Below.refl W8.heap.size W8).alloc (Nat.le_refl _) (.cells #[.int .u8 0, .int .i64 1, .int .i64 0] 53)))
  refine (FixedB_wrong _ _ _ 1 1 [⟨ofN 0, 1, 0⟩] TB.out (by omega) (by decide) true).mono ?_
  generalize W8.alloc (.cells #[.int .u8 0, .int .i64 1, .int .i64 0] 53) = W9 at *
  rintro e W10 ⟨rfl, hb10⟩
  have D10 := Lib.hid (D9.out.go hb10)
  have O10 := Lib.hid (own_below O9.out hb10)
  clear hb10 D8 D9 O8 O9 TB
  go_wp2_with fail
  have TC := Lib.hid (tA_row W10 _ rfl)
  have D11 := Lib.hid (D10.out.alloc (.cells #[.int .u8 65, .int .i64 0, .int .i64 0] 53))
  have O11 := Lib.hid (own_below O10.out ((Below.refl W10.heap.size W10).alloc (Nat.le_refl _) (.cells #[.int .u8 65, .int .i64 0, .int .i64 0] 53)))
  refine (Count_c _ 1 1 [tA] _ TC.out (by omega) D11.out.tab).mono ?_
  generalize W10.alloc (.cells #[.int .u8 65, .int .i64 0, .int .i64 0] 53) = W11 at *
  rintro e W12 ⟨gl, gd, rfl, hgl, hgd, hne, hol, hod, hb12⟩
  have D12 := Lib.hid (D11.out.go hb12)
  have O12 := Lib.hid (own_below O11.out hb12)
  have hc65 : W12.cell? ⟨gl, 65, none⟩ = some (.int .i64 1) := by
    have h := hol.cellAt 65 (by omega)
    rw [iC_at (by rw [fR_length]; omega), fR_at _ (by omega), show bump ([tA].foldl lStep fun _ => 0) 256 65 = 1 from by decide +kernel] at h
    exact h
  have HC12 := Lib.hid hc65
  have HGL : Hid (gl < W12.heap.size) := (hol.lt gl rfl).2
  clear hb12 D10 D11 O10 O11 TC hol hod hgl hgd hne hc65
  go_wp2_with fail
  obtain ⟨A1, len1, cap1, m1, hW1, -⟩ := D12.out.x1
  refine (DoneB_c hW1).mono ?_
  rintro e W13 ⟨A13, c13, rfl, hown13, hb13⟩
  have D13 := Lib.hid (D12.out.go hb13)
  have O13 := Lib.hid (own_below O12.out hb13)
  have hc13 := (hb13.cell (p := ⟨gl, 65, none⟩) HGL.out).trans HC12.out
  have HGL13 : Hid (gl < W13.heap.size) := Nat.lt_of_lt_of_le HGL.out hb13.size
  have HC13 := Lib.hid hc13
  have r1 := run_row_string c13 (Row.of_own hown13)
  have e1 : ((strB (pack (fixB [tA] true))).toList == [115, 4, 0]) = true := by rw [exA_fix]; rfl
  clear hb13 hown13 hW1 D12 O12 HC12 HGL hc13
  go_wp2_with fail
  obtain ⟨A2, len2, cap2, m2, hW2, -⟩ := D13.out.x2
  refine (DoneB_c hW2).mono ?_
  rintro e W14 ⟨A14, c14, rfl, hown14, hb14⟩
  have D14 := Lib.hid (D13.out.go hb14)
  have c65 := (hb14.cell (p := ⟨gl, 65, none⟩) HGL13.out).trans HC13.out
  have r2 := run_row_string c14 (Row.of_own hown14)
  have r3 := run_row_string c8 (Row.of_own (own_below O13.out hb14))
  have e2 : ((strB (pack (stoB [] [ofN 65] true))).toList == [1, 1, 0, 254, 255, 65]) = true := by rw [exA_sto]; rfl
  have e3 : ((strB [ofN 65]).toList == [65]) = true := by decide +kernel
  clear hb14 hown14 hW2 D13 O13 HC13 HGL13 r1 e1
  go_wp2_with fail
  have TD := Lib.hid (tA_row W14 _ rfl)
  have D15 := Lib.hid (D14.out.alloc (.cells #[.int .u8 65, .int .i64 0, .int .i64 0] 53))
  clear r2 r3 e2 e3 c65 D14
  have hF := FixedBits_c _ D15.out.tab _ 1 1 [tA] TD.out (by omega) rfl
  rw [exA_len] at hF
  have HF := Lib.hid hF
  clear hF
  refine HF.out.mono ?_
  generalize W14.alloc (.cells #[.int .u8 65, .int .i64 0, .int .i64 0] 53) = W15 at *
  rintro e W16 ⟨rfl, hb16⟩
  have D16 := Lib.hid (D15.out.go hb16)
  clear hb16 D15 TD HF
  have hS := fun W => StoredBits_c 1 0 W
  rw [show stbF 1 0 = 48 from rfl] at hS
  have HSB := Lib.hid hS
  clear hS
  go_wp2_with fail
  refine (HSB.out W16).mono ?_
  rintro e _ ⟨rfl, rfl⟩
  go_wp2
  go_ret
  exact ⟨rfl, D16.out.bel⟩
end
end Go.Proofs.YthnbflkoipnakaaGreatDoor
