/-
  LOCAL HEADERS: read. No conditions (but that the bytes are as many as their own numbers tell).
-/
import Derived.Test.YtcclhcbjolelcaaDoorLoci
namespace Go.Proofs.YtcclhcbjolelcaaDoor
open Go.RowKit
set_option maxRecDepth 100000
set_option linter.unusedVariables false

def rdC (m sm pk sz : Nat) (nm : ByteArray) : Array Value := #[.int .i64 m, .int .i64 0, .int .i64 0, .int .i64 0, .int .i64 0, .int .i64 0, .int .i64 0, .int .u32 sm, .int .u64 pk, .int .u64 sz, .string nm]
theorem rdH_C (l : List F) : hdV (rdH l) = .agg (rdC (atL l 8 2) (atL l 14 4) (if atL l 28 2 = 20 then atL l (42 + atL l 26 2) 8 else atL l 18 4) (if atL l 28 2 = 20 then atL l (34 + atL l 26 2) 8 else atL l 22 4) (strB ((l.drop 30).take (atL l 26 2)))) := by
  rw [show strB ((l.drop 30).take (atL l 26 2)) = S (nmOf ((l.drop 30).take (atL l 26 2))) from strB_S (nmOf ((l.drop 30).take (atL l 26 2)))]
  rfl
theorem below_ldst {w w1 : World} {g : Nat} {C : Array Value} (h : Blk w1 g 27 C) (hC : C.size = 11) (h1 : C.all (·.oneCell') = true) (hg : w.heap.size ≤ g) (hb : Below w.heap.size w w1) : Below w.heap.size w (w1.setRow g C) ∧ Blk (w1.setRow g C) g 27 C := ⟨below_setRowS hb hg C, h.setRow C⟩
set_option maxHeartbeats 2000000 in
theorem read_c (A : Option Addr) (n c : Nat) (l : List F) (w : World) (h : Row w A n l) (hn : n = tolN l) (hm : n ≤ 1000000) :
    Calls Tryd.prog 26 #[.slice A n c] w fun e w' => e = .returned (.tuple #[hdV (rdH l), .int .u16 (atL l 12 2 : Nat), .int .u16 (atL l 10 2 : Nat)]) ∧ Below w.heap.size w w' := by
  rw [rdH_C]
  have ht : tolN l = 30 + atL l 26 2 + atL l 28 2 := rfl
  rw [ht] at hn
  clear ht
  have b8 := atL_lt2 l 8
  have b10 := atL_lt2 l 10
  have b12 := atL_lt2 l 12
  have b14 := atL_lt4 l 14
  have b26 := atL_lt2 l 26
  have b28 := atL_lt2 l 28
  have H := Lib.hid h
  clear h
  generalize F8 : atL l 8 2 = a8 at *
  have E8 := Lib.hid F8
  clear F8
  generalize F10 : atL l 10 2 = a10 at *
  have E10 := Lib.hid F10
  clear F10
  generalize F12 : atL l 12 2 = a12 at *
  have E12 := Lib.hid F12
  clear F12
  generalize F14 : atL l 14 4 = a14 at *
  have E14 := Lib.hid F14
  clear F14
  generalize F26 : atL l 26 2 = k1 at *
  have E26 := Lib.hid F26
  clear F26
  generalize F28 : atL l 28 2 = k2 at *
  have E28 := Lib.hid F28
  clear F28
  generalize F18 : atL l 18 4 = a18 at *
  have E18 := Lib.hid F18
  clear F18
  generalize F22 : atL l 22 4 = a22 at *
  have E22 := Lib.hid F22
  clear F22
  generalize FP : (if k2 = 20 then atL l (42 + k1) 8 else a18) = PK at *
  have HPK := Lib.hid FP
  clear FP
  generalize FS : (if k2 = 20 then atL l (34 + k1) 8 else a22) = SZ at *
  have HSZ := Lib.hid FS
  clear FS
  generalize FN : strB ((l.drop 30).take k1) = nm at *
  have HNM := Lib.hid FN
  clear FN
  have u8 : IntKind.i64.wrap (a8 : Int) = (a8 : Int) := IntWalk.i64_in _ (by omega)
  have u10 : IntKind.u16.wrap (a10 : Int) = (a10 : Int) := by show (a10 : Int) % 65536 = _; omega
  have u12 : IntKind.u16.wrap (a12 : Int) = (a12 : Int) := by show (a12 : Int) % 65536 = _; omega
  have u14 : IntKind.u32.wrap (a14 : Int) = (a14 : Int) := by show (a14 : Int) % 4294967296 = _; omega
  have u26 : IntKind.i64.wrap (k1 : Int) = (k1 : Int) := IntWalk.i64_in _ (by omega)
  have HN := Lib.hid hn
  have hn30 : 30 + k1 ≤ n := by omega
  clear hn
  go_enter Tryd.func26, Tryd.ntmps26
  go_wp2_with fail
  refine (Read_d A n c l _ (H.out.alloc _) (by omega)).mono ?_
  rintro e W1 ⟨p, A1, c1, rfl, hr, hp, hb, hal⟩
  have R1 : Hid (RdSt w W1 27 (rdC 0 0 0 0 ByteArray.empty) p A1 n c1 l 0) := by
    refine ⟨(Blk.new w _ _).below (by simp) hb, hr, by simpa using hp, by simpa using hal, ((Below.refl w.heap.size w).alloc (Nat.le_refl _) _).trans (hb.mono (by simp))⟩
  clear hr hp hb hal
  go_wp2_with fail
  refine (R1.out.bytes 8 8 rfl hm (by omega)).mono ?_
  rintro e W2 ⟨A2, c2, rfl, _, r2⟩
  have R2 : Hid (RdSt w W2 _ _ p A1 n c1 l 8) := r2
  clear r2 R1
  go_wp2_with fail
  refine (R2.out.num 2 2 rfl (by omega) (by omega)).mono ?_
  rintro e W3 ⟨rfl, r3⟩
  rw [E8.out]
  have R3 : Hid (RdSt w W3 _ _ p A1 n c1 l 10) := r3
  have o3 := (R3.out.box.cell 0).trans rfl
  have f3 := R3.out.box.frozen 0
  have R4 : Hid (RdSt w _ _ (rdC a8 0 0 0 ByteArray.empty) p A1 n c1 l 10) := R3.out.set 0 (.int .i64 (a8 : Nat))
  clear r3 R2 R3
  go_wp2_with fail
  refine (R4.out.num 2 2 rfl (by omega) (by omega)).mono ?_
  rintro e W5 ⟨rfl, r5⟩
  rw [E10.out]
  have R5 : Hid (RdSt w W5 _ _ p A1 n c1 l 12) := r5
  clear r5 R4 o3 f3
  go_wp2_with fail
  refine (R5.out.num 2 2 rfl (by omega) (by omega)).mono ?_
  rintro e W6 ⟨rfl, r6⟩
  rw [E12.out]
  have R6 : Hid (RdSt w W6 _ _ p A1 n c1 l 14) := r6
  clear r6 R5
  go_wp2_with fail
  refine (R6.out.num 4 4 rfl (by omega) (by omega)).mono ?_
  rintro e W7 ⟨rfl, r7⟩
  rw [E14.out]
  have R7 : Hid (RdSt w W7 _ _ p A1 n c1 l 18) := r7
  have o7 := (R7.out.box.cell 7).trans rfl
  have f7 := R7.out.box.frozen 7
  have R8 : Hid (RdSt w _ _ (rdC a8 a14 0 0 ByteArray.empty) p A1 n c1 l 18) := R7.out.set 7 (.int .u32 (a14 : Nat))
  clear r7 R6 R7
  go_wp2_with fail
  refine (R8.out.num 4 4 rfl (by omega) (by omega)).mono ?_
  rintro e W9 ⟨rfl, r9⟩
  rw [E18.out]
  have R9 : Hid (RdSt w W9 _ _ p A1 n c1 l 22) := r9
  clear r9 R8 o7 f7
  go_wp2_with fail
  refine (R9.out.num 4 4 rfl (by omega) (by omega)).mono ?_
  rintro e W10 ⟨rfl, r10⟩
  rw [E22.out]
  have R10 : Hid (RdSt w W10 _ _ p A1 n c1 l 26) := r10
  have o8 := (R10.out.box.cell 8).trans rfl
  have f8 := R10.out.box.frozen 8
  have R11 : Hid (RdSt w _ _ (rdC a8 a14 a18 0 ByteArray.empty) p A1 n c1 l 26) := R10.out.set 8 (.int .u64 (a18 : Nat))
  have o9 := (R11.out.box.cell 9).trans rfl
  have f9 := R11.out.box.frozen 9
  have R12 : Hid (RdSt w _ _ (rdC a8 a14 a18 a22 ByteArray.empty) p A1 n c1 l 26) := R11.out.set 9 (.int .u64 (a22 : Nat))
  clear r10 R9 R10 R11
  go_wp2_with fail
  refine (R12.out.num 2 2 rfl (by omega) (by omega)).mono ?_
  rintro e W13 ⟨rfl, r13⟩
  rw [E26.out]
  have R13 : Hid (RdSt w W13 _ _ p A1 n c1 l 28) := r13
  clear r13 R12 o8 f8 o9 f9
  go_wp2_with fail
  refine (R13.out.num 2 2 rfl (by omega) (by omega)).mono ?_
  rintro e W14 ⟨rfl, r14⟩
  rw [E28.out]
  have R14 : Hid (RdSt w W14 _ _ p A1 n c1 l 30) := r14
  clear r14 R13
  go_wp2_with fail
  refine (R14.out.bytes k1 _ rfl hm (by omega)).mono ?_
  rintro e W15 ⟨A15, c15, rfl, hr15, r15⟩
  have R15 := Lib.hid r15
  have hcv := run_row_string c15 hr15
  have o10 := (R15.out.box.cell 10).trans rfl
  have f10 := R15.out.box.frozen 10
  rw [HNM.out] at hcv
  have R16 : Hid (RdSt w _ _ (rdC a8 a14 a18 a22 nm) p A1 n c1 l (30 + k1)) := R15.out.set 10 (.string nm)
  clear r15 hr15 R14 R15
  by_cases hg : k2 = 20
  · have b1 : ((k2 : Int) == 20) = true := by rw [beq_iff_eq]; omega
    have E34 : Hid (atL l (34 + k1) 8 = SZ) := (if_pos hg).symm.trans HSZ.out
    have E42 : Hid (atL l (42 + k1) 8 = PK) := (if_pos hg).symm.trans HPK.out
    have hnn : 50 + k1 ≤ n := by have := HN.out; omega
    clear hg
    go_wp2_with fail
    refine (R16.out.bytes 4 4 rfl hm (by omega)).mono ?_
    rintro e W17 ⟨A17, c17, rfl, _, r17⟩
    have R17 : Hid (RdSt w W17 27 (rdC a8 a14 a18 a22 nm) p A1 n c1 l (34 + k1)) := by rw [show 34 + k1 = 30 + k1 + 4 by omega]; exact r17
    clear r17 R16 o10 f10 hcv
    go_wp2_with fail
    refine (R17.out.num 8 8 rfl (by omega) (by omega)).mono ?_
    rintro e W18 ⟨rfl, r18⟩
    rw [E34.out]
    have R18 : Hid (RdSt w W18 27 (rdC a8 a14 a18 a22 nm) p A1 n c1 l (42 + k1)) := by rw [show 42 + k1 = 34 + k1 + 8 by omega]; exact r18
    clear r18 R17
    go_wp2_with fail
    refine (R18.out.num 8 8 rfl (by omega) (by omega)).mono ?_
    rintro e W19 ⟨rfl, r19⟩
    rw [E42.out]
    have R19 := Lib.hid r19
    clear r19 R18
    have o9 := (R19.out.box.cell 9).trans rfl
    have f9 := R19.out.box.frozen 9
    have R20 : Hid (RdSt w _ _ (rdC a8 a14 a18 SZ nm) p A1 n c1 l _) := R19.out.set 9 (.int .u64 (SZ : Nat))
    have o8 := (R20.out.box.cell 8).trans rfl
    have f8 := R20.out.box.frozen 8
    have R21 : Hid (RdSt w _ _ (rdC a8 a14 PK SZ nm) p A1 n c1 l _) := R20.out.set 8 (.int .u64 (PK : Nat))
    have t1 := ld_hd R21.out.box rfl
    have t2 := st_hd R21.out.box rfl (rdC a8 a14 PK SZ nm) rfl (by simp [rdC, Value.oneCell'])
    have t3 := ld_hd (R21.out.box.setRow (rdC a8 a14 PK SZ nm)) rfl
    have HB9 := Lib.hid (below_setRowS R21.out.bel (Nat.le_refl _) (rdC a8 a14 PK SZ nm))
    go_wp2_with (first
      | (with_reducible refine wpList_load_var _ _ (by with_unfolding_all rfl) t1 ?_)
      | (with_reducible refine wpList_store_var _ _ _ (by with_unfolding_all rfl) (by with_unfolding_all rfl) t2 ?_))
    refine bodyPost_ret (v := .tuple #[.agg (rdC a8 a14 PK SZ nm), .int .u16 (a12 : Nat), .int .u16 (a10 : Nat)]) ?_ rfl ⟨rfl, HB9.out⟩
    rw [results_cell_tt rfl]
    simp [asAddr, Result.andThen, t3]
  · have b1 : ((k2 : Int) == 20) = false := by rw [beq_eq_false_iff_ne]; omega
    obtain rfl : a22 = SZ := (if_neg hg).symm.trans HSZ.out
    obtain rfl : a18 = PK := (if_neg hg).symm.trans HPK.out
    clear hg
    have t1 := ld_hd R16.out.box rfl
    have t2 := st_hd R16.out.box rfl (rdC a8 a14 a18 a22 nm) rfl (by simp [rdC, Value.oneCell'])
    have t3 := ld_hd (R16.out.box.setRow (rdC a8 a14 a18 a22 nm)) rfl
    have HB9 := Lib.hid (below_setRowS R16.out.bel (Nat.le_refl _) (rdC a8 a14 a18 a22 nm))
    go_wp2_with (first
      | (with_reducible refine wpList_load_var _ _ (by with_unfolding_all rfl) t1 ?_)
      | (with_reducible refine wpList_store_var _ _ _ (by with_unfolding_all rfl) (by with_unfolding_all rfl) t2 ?_))
    refine bodyPost_ret (v := .tuple #[.agg (rdC a8 a14 a18 a22 nm), .int .u16 (a12 : Nat), .int .u16 (a10 : Nat)]) ?_ rfl ⟨rfl, HB9.out⟩
    rw [results_cell_tt rfl]
    simp [asAddr, Result.andThen, t3]
end Go.Proofs.YtcclhcbjolelcaaDoor
