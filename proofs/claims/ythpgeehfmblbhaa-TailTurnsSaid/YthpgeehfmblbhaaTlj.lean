/-
  TAILS: what a great end and a locator tell: read. No conditions (but that they have bytes enough).
-/
import Derived.Test.YthpgeehfmblbhaaTlh
namespace Go.Proofs.Ythpgeehfmblbhaa
open Go.RowKit
set_option maxRecDepth 100000
set_option linter.unusedVariables false

theorem info_tl : (Try.prog.info? 25).map (·.size) = some 9 := by kernel_rfl
theorem ld_tl {w : World} {g : Nat} {C : Array Value} (h : Blk w g 25 C) (hC : C.size = 9) : Sem.run Try.prog (loadVar 25 ⟨g, 0, none⟩) w = .ok (.agg C) w :=
  run_loadVar_row w g _ _ _ (0, 0) _ h Try.underlying25 rfl (by rw [info_tl, hC])
theorem st_tl {w : World} {g : Nat} {C : Array Value} (h : Blk w g 25 C) (hC : C.size = 9) (D : Array Value) (hD : D.size = 9) (h1 : D.all (·.oneCell') = true) :
    Sem.run Try.prog (storeVar 25 ⟨g, 0, none⟩ (.agg D)) w = .ok () (w.setRow g D) :=
  run_storeVar_row w g _ _ _ _ h (by rw [info_tl, hD]) (by rw [hC, hD]) h1
theorem tlC_one (t : Tl) : (tlC t).all (·.oneCell') = true := by simp [tlC, Value.oneCell']
theorem RdSt.again {w W W' : World} {T : TypeId} {H : Array Value} {p p' : Nat} {A A' : Option Addr} {n c n' c' : Nat} {l l' : List F} {k : Nat} (h : RdSt w W T H p A n c l k) (hb : Below W.heap.size W W') (hr : Rdr W' p' A' n' c' l' 0 false) (hp : W.heap.size ≤ p') (ha : ∀ b o, A' = some ⟨b, o, none⟩ → W.heap.size ≤ b) : RdSt w W' T H p' A' n' c' l' 0 := by
  have hlt := h.lt
  exact ⟨h.box.below h.box.lt hb, hr, by omega, fun b o e => by have := ha b o e; omega, h.bel.trans (hb.mono (by omega))⟩
set_option maxHeartbeats 2000000 in
theorem readT_c (A : Option Addr) (n c : Nat) (l : List F) (B : Option Addr) (m d : Nat) (k : List F) (w : World) (h : RowIn w A n c l) (hn : n = 56) (hB : RowIn w B m d k) (hm : m = 20) :
    Calls Try.prog 27 #[.slice A n c, .slice B m d] w fun e w' => e = .returned (tlV (rdT l k)) ∧ Below w.heap.size w w' := by
  have b1 := atL_lt4 l 16
  have b2 := atL_lt4 l 20
  have b3 := atL_lt4 k 4
  have b4 := atL_lt4 k 16
  have H := Lib.hid h
  have HB := Lib.hid hB
  have hn1 : 56 ≤ n := by omega
  have hn2 : n ≤ 1000 := by omega
  have hm1 : 20 ≤ m := by omega
  have hm2 : m ≤ 1000 := by omega
  clear h hB hn hm
  unfold tlV rdT
  generalize F1 : atL l 16 4 = a1 at *
  have E1 := Lib.hid F1
  clear F1
  generalize F2 : atL l 20 4 = a2 at *
  have E2 := Lib.hid F2
  clear F2
  generalize F3 : atL l 24 8 = a3 at *
  have E3 := Lib.hid F3
  clear F3
  generalize F4 : atL l 32 8 = a4 at *
  have E4 := Lib.hid F4
  clear F4
  generalize F5 : atL l 40 8 = a5 at *
  have E5 := Lib.hid F5
  clear F5
  generalize F6 : atL l 48 8 = a6 at *
  have E6 := Lib.hid F6
  clear F6
  generalize F7 : atL k 4 4 = a7 at *
  have E7 := Lib.hid F7
  clear F7
  generalize F8 : atL k 16 4 = a8 at *
  have E8 := Lib.hid F8
  clear F8
  generalize F9 : atL k 8 8 = a9 at *
  have E9 := Lib.hid F9
  clear F9
  have u1 : IntKind.u32.wrap (a1 : Int) = (a1 : Int) := by show (a1 : Int) % 4294967296 = _; omega
  have u2 : IntKind.u32.wrap (a2 : Int) = (a2 : Int) := by show (a2 : Int) % 4294967296 = _; omega
  have u7 : IntKind.u32.wrap (a7 : Int) = (a7 : Int) := by show (a7 : Int) % 4294967296 = _; omega
  have u8 : IntKind.u32.wrap (a8 : Int) = (a8 : Int) := by show (a8 : Int) % 4294967296 = _; omega
  have HK0 := Lib.hid (Blk.new w 25 (tlC tl0))
  have HB0 := Lib.hid ((Below.refl w.heap.size w).alloc (Nat.le_refl _) (.cells (tlC tl0) 25))
  have HA0 := Lib.hid (H.out.below ((Below.refl w.heap.size w).alloc (Nat.le_refl _) (.cells (tlC tl0) 25)))
  have HC0 := Lib.hid (HB.out.below ((Below.refl w.heap.size w).alloc (Nat.le_refl _) (.cells (tlC tl0) 25)))
  go_enter Try.func27, Try.ntmps27
  go_wp2_with fail
  have HS0 : Hid (w.heap.size < (w.alloc (.cells (tlC tl0) 25)).heap.size) := HK0.out.lt
  have HE0 : Hid ((w.alloc (.cells (tlC tl0) 25)).heap.size = w.heap.size + 1) := by unfold Hid; simp
  rw [← HE0.out]
  change Calls _ _ _ ((w.alloc (.cells (tlC tl0) 25)).alloc (.cells (tlC tl0) 25)) _
  generalize w.alloc (.cells (tlC tl0) 25) = w0 at *
  clear HE0
  refine (Read_d A n c l _ (HA0.out.row.alloc _) (by omega)).mono ?_
  rintro e W1 ⟨p, A1, c1, rfl, hr, hp, hb, hal⟩
  have R1 : Hid (RdSt w0 W1 25 (tlC tl0) p A1 n c1 l 0) := by
    refine ⟨(Blk.new w0 _ _).below (by simp) hb, hr, by simpa using hp, by simpa using hal, ((Below.refl w0.heap.size w0).alloc (Nat.le_refl _) _).trans (hb.mono (by simp))⟩
  clear hr hp hb hal
  unfold tl0 tlC at *
  dsimp only at *
  go_wp2_with fail
  refine (R1.out.bytes 16 16 rfl (by omega) (by omega)).mono ?_
  rintro e W2 ⟨A2, c2, rfl, _, r2⟩
  have R2 : Hid (RdSt w0 W2 _ _ p A1 n c1 l 16) := r2
  clear r2 R1
  go_wp2_with fail
  refine (R2.out.num 4 4 rfl (by omega) (by omega)).mono ?_
  rintro e W3 ⟨rfl, r3⟩
  rw [E1.out]
  have R3 : Hid (RdSt w0 W3 _ _ p A1 n c1 l 20) := r3
  clear r3 R2
  go_wp2_with fail
  refine (R3.out.num 4 4 rfl (by omega) (by omega)).mono ?_
  rintro e W4 ⟨rfl, r4⟩
  rw [E2.out]
  have R4 : Hid (RdSt w0 W4 _ _ p A1 n c1 l 24) := r4
  have o1 := (R4.out.box.cell 0).trans rfl
  have f1 := R4.out.box.frozen 0
  have R5 : Hid (RdSt w0 _ _ #[.int .u32 ((a1 : Nat) : Int), .int .u32 ((0 : Nat) : Int), .int .u64 ((0 : Nat) : Int), .int .u64 ((0 : Nat) : Int), .int .u64 ((0 : Nat) : Int), .int .u64 ((0 : Nat) : Int), .int .u32 ((0 : Nat) : Int), .int .u32 ((0 : Nat) : Int), .int .u64 ((0 : Nat) : Int)] p A1 n c1 l 24) := R4.out.set 0 (.int .u32 (a1 : Nat))
  have o2 := (R5.out.box.cell 1).trans rfl
  have f2 := R5.out.box.frozen 1
  have R6 : Hid (RdSt w0 _ _ #[.int .u32 ((a1 : Nat) : Int), .int .u32 ((a2 : Nat) : Int), .int .u64 ((0 : Nat) : Int), .int .u64 ((0 : Nat) : Int), .int .u64 ((0 : Nat) : Int), .int .u64 ((0 : Nat) : Int), .int .u32 ((0 : Nat) : Int), .int .u32 ((0 : Nat) : Int), .int .u64 ((0 : Nat) : Int)] p A1 n c1 l 24) := R5.out.set 1 (.int .u32 (a2 : Nat))
  clear r4 R3 R4 R5
  go_wp2_with fail
  refine (R6.out.num 8 8 rfl (by omega) (by omega)).mono ?_
  rintro e W7 ⟨rfl, r7⟩
  rw [E3.out]
  have R7 : Hid (RdSt w0 W7 _ _ p A1 n c1 l 32) := r7
  clear r7 R6 o1 f1 o2 f2
  go_wp2_with fail
  refine (R7.out.num 8 8 rfl (by omega) (by omega)).mono ?_
  rintro e W8 ⟨rfl, r8⟩
  rw [E4.out]
  have R8 : Hid (RdSt w0 W8 _ _ p A1 n c1 l 40) := r8
  have o1 := (R8.out.box.cell 2).trans rfl
  have f1 := R8.out.box.frozen 2
  have R9 : Hid (RdSt w0 _ _ #[.int .u32 ((a1 : Nat) : Int), .int .u32 ((a2 : Nat) : Int), .int .u64 ((a3 : Nat) : Int), .int .u64 ((0 : Nat) : Int), .int .u64 ((0 : Nat) : Int), .int .u64 ((0 : Nat) : Int), .int .u32 ((0 : Nat) : Int), .int .u32 ((0 : Nat) : Int), .int .u64 ((0 : Nat) : Int)] p A1 n c1 l 40) := R8.out.set 2 (.int .u64 (a3 : Nat))
  have o2 := (R9.out.box.cell 3).trans rfl
  have f2 := R9.out.box.frozen 3
  have R10 : Hid (RdSt w0 _ _ #[.int .u32 ((a1 : Nat) : Int), .int .u32 ((a2 : Nat) : Int), .int .u64 ((a3 : Nat) : Int), .int .u64 ((a4 : Nat) : Int), .int .u64 ((0 : Nat) : Int), .int .u64 ((0 : Nat) : Int), .int .u32 ((0 : Nat) : Int), .int .u32 ((0 : Nat) : Int), .int .u64 ((0 : Nat) : Int)] p A1 n c1 l 40) := R9.out.set 3 (.int .u64 (a4 : Nat))
  clear r8 R7 R8 R9
  go_wp2_with fail
  refine (R10.out.num 8 8 rfl (by omega) (by omega)).mono ?_
  rintro e W11 ⟨rfl, r11⟩
  rw [E5.out]
  have R11 : Hid (RdSt w0 W11 _ _ p A1 n c1 l 48) := r11
  clear r11 R10 o1 f1 o2 f2
  go_wp2_with fail
  refine (R11.out.num 8 8 rfl (by omega) (by omega)).mono ?_
  rintro e W12 ⟨rfl, r12⟩
  rw [E6.out]
  have R12 : Hid (RdSt w0 W12 _ _ p A1 n c1 l 56) := r12
  have o1 := (R12.out.box.cell 4).trans rfl
  have f1 := R12.out.box.frozen 4
  have R13 : Hid (RdSt w0 _ _ #[.int .u32 ((a1 : Nat) : Int), .int .u32 ((a2 : Nat) : Int), .int .u64 ((a3 : Nat) : Int), .int .u64 ((a4 : Nat) : Int), .int .u64 ((a5 : Nat) : Int), .int .u64 ((0 : Nat) : Int), .int .u32 ((0 : Nat) : Int), .int .u32 ((0 : Nat) : Int), .int .u64 ((0 : Nat) : Int)] p A1 n c1 l 56) := R12.out.set 4 (.int .u64 (a5 : Nat))
  have o2 := (R13.out.box.cell 5).trans rfl
  have f2 := R13.out.box.frozen 5
  have R14 : Hid (RdSt w0 _ _ #[.int .u32 ((a1 : Nat) : Int), .int .u32 ((a2 : Nat) : Int), .int .u64 ((a3 : Nat) : Int), .int .u64 ((a4 : Nat) : Int), .int .u64 ((a5 : Nat) : Int), .int .u64 ((a6 : Nat) : Int), .int .u32 ((0 : Nat) : Int), .int .u32 ((0 : Nat) : Int), .int .u64 ((0 : Nat) : Int)] p A1 n c1 l 56) := R13.out.set 5 (.int .u64 (a6 : Nat))
  clear r12 R11 R12 R13
  have HC1 := Lib.hid (HC0.out.row.below R14.out.bel)
  go_wp2_with fail
  refine (Read_d B m d k _ HC1.out (by omega)).mono ?_
  rintro e W15 ⟨q, B1, d1, rfl, hr, hp, hb, hal⟩
  have R15 : Hid (RdSt w0 W15 25 #[.int .u32 ((a1 : Nat) : Int), .int .u32 ((a2 : Nat) : Int), .int .u64 ((a3 : Nat) : Int), .int .u64 ((a4 : Nat) : Int), .int .u64 ((a5 : Nat) : Int), .int .u64 ((a6 : Nat) : Int), .int .u32 ((0 : Nat) : Int), .int .u32 ((0 : Nat) : Int), .int .u64 ((0 : Nat) : Int)] q B1 m d1 k 0) := R14.out.again hb hr hp hal
  clear hr hp hb hal HC1 R14 o1 f1 o2 f2
  go_wp2_with fail
  refine (R15.out.bytes 4 4 rfl (by omega) (by omega)).mono ?_
  rintro e W16 ⟨A16, c16, rfl, _, r16⟩
  have R16 : Hid (RdSt w0 W16 _ _ q B1 m d1 k 4) := r16
  clear r16 R15
  go_wp2_with fail
  refine (R16.out.num 4 4 rfl (by omega) (by omega)).mono ?_
  rintro e W17 ⟨rfl, r17⟩
  rw [E7.out]
  have R17 : Hid (RdSt w0 W17 _ _ q B1 m d1 k 8) := r17
  clear r17 R16
  go_wp2_with fail
  refine (R17.out.num 8 8 rfl (by omega) (by omega)).mono ?_
  rintro e W18 ⟨rfl, r18⟩
  rw [E9.out]
  have R18 : Hid (RdSt w0 W18 _ _ q B1 m d1 k 16) := r18
  clear r18 R17
  go_wp2_with fail
  refine (R18.out.num 4 4 rfl (by omega) (by omega)).mono ?_
  rintro e W19 ⟨rfl, r19⟩
  rw [E8.out]
  have R19 : Hid (RdSt w0 W19 _ _ q B1 m d1 k 20) := r19
  clear r19 R18
  have o1 := (R19.out.box.cell 6).trans rfl
  have f1 := R19.out.box.frozen 6
  have R20 : Hid (RdSt w0 _ _ #[.int .u32 ((a1 : Nat) : Int), .int .u32 ((a2 : Nat) : Int), .int .u64 ((a3 : Nat) : Int), .int .u64 ((a4 : Nat) : Int), .int .u64 ((a5 : Nat) : Int), .int .u64 ((a6 : Nat) : Int), .int .u32 ((a7 : Nat) : Int), .int .u32 ((0 : Nat) : Int), .int .u64 ((0 : Nat) : Int)] q B1 m d1 k 20) := R19.out.set 6 (.int .u32 (a7 : Nat))
  have o2 := (R20.out.box.cell 8).trans rfl
  have f2 := R20.out.box.frozen 8
  have R21 : Hid (RdSt w0 _ _ #[.int .u32 ((a1 : Nat) : Int), .int .u32 ((a2 : Nat) : Int), .int .u64 ((a3 : Nat) : Int), .int .u64 ((a4 : Nat) : Int), .int .u64 ((a5 : Nat) : Int), .int .u64 ((a6 : Nat) : Int), .int .u32 ((a7 : Nat) : Int), .int .u32 ((0 : Nat) : Int), .int .u64 ((a9 : Nat) : Int)] q B1 m d1 k 20) := R20.out.set 8 (.int .u64 (a9 : Nat))
  have o3 := (R21.out.box.cell 7).trans rfl
  have f3 := R21.out.box.frozen 7
  have R22 : Hid (RdSt w0 _ _ #[.int .u32 ((a1 : Nat) : Int), .int .u32 ((a2 : Nat) : Int), .int .u64 ((a3 : Nat) : Int), .int .u64 ((a4 : Nat) : Int), .int .u64 ((a5 : Nat) : Int), .int .u64 ((a6 : Nat) : Int), .int .u32 ((a7 : Nat) : Int), .int .u32 ((a8 : Nat) : Int), .int .u64 ((a9 : Nat) : Int)] q B1 m d1 k 20) := R21.out.set 7 (.int .u32 (a8 : Nat))
  clear R19 R20 R21
  have q0 := ld_tl R22.out.box rfl
  have hz := HK0.out.lowB HS0.out R22.out.bel
  have t2 := st_tl hz rfl (tlC ⟨a1, a2, a3, a4, a5, a6, a7, a8, a9⟩) rfl (tlC_one _)
  have t3 := ld_tl (hz.setRow (tlC ⟨a1, a2, a3, a4, a5, a6, a7, a8, a9⟩)) rfl
  have HB9 := Lib.hid (below_setRowS (HB0.out.trans (R22.out.bel.mono HB0.out.size)) (Nat.le_refl _) (tlC ⟨a1, a2, a3, a4, a5, a6, a7, a8, a9⟩))
  clear hz
  unfold tlC at *
  dsimp only at *
  go_wp2_with (first
    | (with_reducible refine wpList_load_var _ _ (by with_unfolding_all rfl) q0 ?_)
    | (with_reducible refine wpList_store_var _ _ _ (by with_unfolding_all rfl) (by with_unfolding_all rfl) t2 ?_))
  refine bodyPost_ret (v := .agg #[.int .u32 a1, .int .u32 a2, .int .u64 a3, .int .u64 a4, .int .u64 a5, .int .u64 a6, .int .u32 a7, .int .u32 a8, .int .u64 a9]) ?_ rfl ⟨rfl, HB9.out⟩
  rw [results_cell_oneL rfl]
  simp [asAddr, Result.andThen, Act.put, t3]
end Go.Proofs.Ythpgeehfmblbhaa
