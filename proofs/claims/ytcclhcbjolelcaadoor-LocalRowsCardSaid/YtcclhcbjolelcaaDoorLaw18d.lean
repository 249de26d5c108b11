/-
  LAW 18: LocalRows. No conditions (but that the table of months lies as the program's text lays it).
-/
import Derived.Test.YtcclhcbjolelcaaDoorLaw18a
namespace Go.Proofs.YtcclhcbjolelcaaDoor
open Go.RowKit
set_option maxRecDepth 100000
set_option linter.unusedVariables false
set_option linter.unusedSimpArgs false

set_option maxHeartbeats 1000000 in
/-- two headers that aren't the same: Go's comparison tells so -/
theorem hd_neq (a b : Hd) (hne : a ≠ b) (w : World) : (binOp .eql 27 (hdV a) (hdV b)).run Tryd.prog w = .ok (.bool false) w := by
  obtain ⟨mm, ⟨y, mo, dd, hh, mi, s⟩, sum, p, z, nm⟩ := a
  obtain ⟨mm', ⟨y', mo', dd', hh', mi', s'⟩, sum', p', z', nm'⟩ := b
  unfold hdV hdC
  dsimp only
  go_simp
  intro h1 h2 h3 h4 h5 h6 h7 h8 h9 h10 h11
  have k8 : sum = sum' := by omega
  have k9 : p = p' := by omega
  have k10 : z = z' := by omega
  have k11 : nm = nm' := by
    rw [ByteArray.toList_eq, ByteArray.toList_eq] at h11
    simpa [S] using h11
  subst h1 h2 h3 h4 h5 h6 h7 k8 k9 k10 k11
  exact hne rfl
set_option maxHeartbeats 4000000 in
theorem walk_LocalRows (w : World) (ht : TabM w) (a : Hd) (hw : HdW a) (hm : a.nm.length ≤ maxLen) (b : Hd) (hw2 : HdW b) (hm2 : b.nm.length ≤ maxLen) :
    Calls Tryd.prog 6 #[hdV a, hdV b] w fun e w' => e = .returned (.bool true) ∧ Below w.heap.size w w' := by
  obtain ⟨i0, hi, hz0, hz1, hz2⟩ := info_parts info_u8
  have HT := Lib.hid ht
  have HK := Lib.hid (Blk.new w 27 (hdC a))
  have HJ := Lib.hid (Blk.new (w.alloc (.cells (hdC a) 27)) 27 (hdC b))
  have HBL := Lib.hid (((Below.refl w.heap.size w).alloc (Nat.le_refl _) (.cells (hdC a) 27)).alloc (by simp) (.cells (hdC b) 27))
  have HK2 := Lib.hid (HK.out.below HK.out.lt ((Below.refl _ _).alloc (Nat.le_refl _) (.cells (hdC b) 27)))
  have HAL := Lib.hid alive18_c
  have hsS := S_size a.nm
  have hsT := S_size b.nm
  simp only [World.size_alloc] at HJ
  by_cases hb : a.nm.length ≤ 300 ∧ b.nm.length ≤ 300
  · by_cases hka : chkH a = 0
    · by_cases hkb : chkH b = 0
      · have hXL : (hdX a).length = 30 + a.nm.length + behN (grt a) := hdB_length a _ _
        have hYL : (hdX b).length = 30 + b.nm.length + behN (grt b) := hdB_length b _ _
        have HW := Lib.hid (Write_yes a hw hka _ hXL.symm)
        have HV := Lib.hid (Write_yes b hw2 hkb _ hYL.symm)
        have hp1 := prV_hdX a (hdX b) hw hka
        have hp2 := prV_hdX b [] hw2 hkb
        rw [List.append_nil] at hp2
        have HP1 := Lib.hid (fun A c W hW hT => Parse_c A ((hdX a).length + (hdX b).length) c (hdX a ++ hdX b) W hW (by rw [hXL, hYL]; have : behN (grt a) ≤ 20 := (by unfold behN; split <;> omega); have : behN (grt b) ≤ 20 := (by unfold behN; split <;> omega); omega) hT)
        have HP2 := Lib.hid (fun A c W hW hT => Parse_c A (hdX b).length c (hdX b) W hW (by rw [hYL]; have : behN (grt b) ≤ 20 := (by unfold behN; split <;> omega); omega) hT)
        rw [hp1] at HP1
        rw [hp2] at HP2
        have hin : hdX a = hdX b → a = b := fun e => hdX_inj hw hw2 hka hkb e
        have hX1 : 30 ≤ (hdX a).length ∧ (hdX a).length ≤ 1000 := by rw [hXL]; have : behN (grt a) ≤ 20 := (by unfold behN; split <;> omega); omega
        have hY1 : 30 ≤ (hdX b).length ∧ (hdX b).length ≤ 1000 := by rw [hYL]; have : behN (grt b) ≤ 20 := (by unfold behN; split <;> omega); omega
        have i1 : ¬ (300 : Int) < ((S a.nm).size : Int) := by omega
        have i2 : ¬ (300 : Int) < ((S b.nm).size : Int) := by omega
        have j1 : decide ((300 : Int) < ((S a.nm).size : Int)) = false := decide_eq_false i1
        have j2 : decide ((300 : Int) < ((S b.nm).size : Int)) = false := decide_eq_false i2
        have HIN := Lib.hid hin
        have HSX := Lib.hid (rfl : (hdX a).length = (hdX a).length)
        obtain ⟨bq, hbq⟩ : ∃ bq, decide (hdX a = hdX b) = bq := ⟨_, rfl⟩
        have heq : bq = true → a = b := fun e => hin (of_decide_eq_true (hbq.trans e))
        have hne : bq = false → a ≠ b := fun e e2 => by
          rw [e2] at hbq
          rw [decide_eq_true rfl] at hbq
          rw [← hbq] at e
          cases e
        have HEQ := Lib.hid heq
        have HNE := Lib.hid hne
        have HBQ := Lib.hid hbq
        clear hw hw2 ht hsS hsT hb HK hka hkb hp1 hp2 hin hXL hYL i1 i2 heq hne hbq hm hm2 HSX HIN
        generalize hdX a = X at *
        generalize hdX b = Y at *
        obtain ⟨N, hN⟩ : ∃ N, X.length = N := ⟨_, rfl⟩
        obtain ⟨M, hM⟩ : ∃ M, Y.length = M := ⟨_, rfl⟩
        rw [hN] at HW HP1 hX1
        rw [hM] at HV HP1 HP2 hY1
        have HNN := Lib.hid hN
        have HMM := Lib.hid hM
        clear hN hM
        obtain ⟨mm, ⟨y, mo, dd, hh, mi, s⟩, sum, p, z, nm⟩ := a
        obtain ⟨mm', ⟨y', mo', dd', hh', mi', s'⟩, sum', p', z', nm'⟩ := b
        unfold hdV hdC at *
        dsimp only at *
        go_enter Tryd.func6, Tryd.ntmps6
        go_wp2_with fail
        refine (HAL.out _ ((HT.out.alloc _).alloc _)).mono ?_
        rintro e W1 ⟨rfl, hb1⟩
        have K1 := Lib.hid (HK2.out.below HK2.out.lt hb1)
        have J1 := Lib.hid (HJ.out.below HJ.out.lt hb1)
        have B1 := Lib.hid (HBL.out.trans (hb1.mono HBL.out.size))
        clear hb1 HK2 HJ HBL HAL
        have c10 := (K1.out.cell 10).trans rfl
        have d10 := (J1.out.cell 10).trans rfl
        have q1 := ld_hd K1.out rfl
        go_wp2_with (with_reducible refine wpList_load_var _ _ (by with_unfolding_all rfl) q1 ?_)
        refine (HW.out _ (HT.out.below B1.out)).mono ?_
        rintro e W2 ⟨g2, d2, rfl, hown2, hb2⟩
        have K2 := Lib.hid (K1.out.below K1.out.lt hb2)
        have J2 := Lib.hid (J1.out.below J1.out.lt hb2)
        have B2 := Lib.hid (B1.out.trans (hb2.mono B1.out.size))
        have R2 := Lib.hid (Row.of_own hown2)
        clear hb2 K1 J1 B1 hown2 c10 d10 q1
        have q2 := ld_hd J2.out rfl
        go_wp2_with (with_reducible refine wpList_load_var _ _ (by with_unfolding_all rfl) q2 ?_)
        refine (HV.out _ (HT.out.below B2.out)).mono ?_
        rintro e W3 ⟨g3, d3, rfl, hown3, hb3⟩
        have K3 := Lib.hid (K2.out.below K2.out.lt hb3)
        have J3 := Lib.hid (J2.out.below J2.out.lt hb3)
        have B3 := Lib.hid (B2.out.trans (hb3.mono B2.out.size))
        have R3 := Lib.hid (R2.out.below hb3)
        have S3 := Lib.hid (Row.of_own hown3)
        clear hb3 K2 J2 B2 R2 hown3 q2
        go_wp2_with fail
        refine (Copy_c _ N d2 X _ R3.out (by omega)).mono ?_
        rintro e W4 ⟨A4, d4, rfl, hown4, hb4⟩
        have S4 := Lib.hid (S3.out.below hb4)
        have O4 := Lib.hid hown4
        have H34 := Lib.hid hb4
        clear hb4 hown4
        go_wp2_with (refine wpList_append_row i0 hi hz0 hz1 hz2 (by rfl) (.tmp 45) (.tmp 46) (by rfl) W3.heap.size (.slice A4 N d4) N (cs X) (by simp [go_sem]) O4.out (some ⟨g3, 0, none⟩) M d3 Y (by simp [go_sem]) S4.out (by omega) H34.out.size ?_; intro v5 W5 hL; obtain ⟨A5, d5, rfl, hown5, hg5, hnw5⟩ := hL)
        have h45 : Below W3.heap.size W4 W5 := (Below.refl W3.heap.size W4).grown hg5 H34.out.size (fun k hk => (O4.out.lt k hk).1)
        have h35 := H34.out.trans h45
        rw [← cs_append] at hown5
        have hown6 := own_base2 hown5 (show 0 ≤ W3.heap.size by omega)
        obtain ⟨g5, rfl, _, _⟩ := own_addr hown5 (by omega)
        have I5 := Lib.hid (own_in hown5)
        have cap5 := (own_cap hown5).1
        have K5 := Lib.hid (K3.out.below K3.out.lt h35)
        have J5 := Lib.hid (J3.out.below J3.out.lt h35)
        have B5 := Lib.hid (B3.out.trans (h35.mono B3.out.size))
        have R5 := Lib.hid (R3.out.below h35)
        have S5 := Lib.hid (S3.out.below h35)
        clear hown6 hg5 hnw5 h45 h35 K3 J3 B3 R3 S3 S4 O4 H34 hown5
        refine (HP1.out (some ⟨g5, 0, none⟩) d5 W5 I5.out (HT.out.below B5.out)).mono ?_
        rintro e W6 ⟨rfl, hb6⟩
        have hba := hb6.alloc hb6.size (.cells #[.int .i64 mm, .int .i64 y, .int .i64 mo, .int .i64 dd, .int .i64 hh, .int .i64 mi, .int .i64 s, .int .u32 sum, .int .u64 p, .int .u64 z, .string (S nm)] 27)
        have E6 := Lib.hid (Blk.new W6 27 #[.int .i64 mm, .int .i64 y, .int .i64 mo, .int .i64 dd, .int .i64 hh, .int .i64 mi, .int .i64 s, .int .u32 sum, .int .u64 p, .int .u64 z, .string (S nm)])
        have K6 := Lib.hid (K5.out.below K5.out.lt hba)
        have J6 := Lib.hid (J5.out.below J5.out.lt hba)
        have B6 := Lib.hid (B5.out.trans (hba.mono B5.out.size))
        have R6 := Lib.hid (R5.out.below hba)
        have S6 := Lib.hid (S5.out.below hba)
        have I6 := Lib.hid (I5.out.below hba)
        clear hb6 hba K5 J5 B5 R5 S5 I5
        obtain ⟨e0, e1, e2, e3, e4, e5, e6, e7, e8, e9, e10⟩ := elv E6.out
        obtain ⟨f0, f1, f2, f3, f4, f5, f6, f7, f8, f9, f10⟩ := elv K6.out
        have l1 : (N : Int) ≤ (d5 : Int) := by omega
        have l2 : ¬ d5 = N := by omega
        have sl := (I6.out.slice (a := N) (M := N + M) (by omega) (by omega)).2 (by omega)
        rw [show N + M - N = M by omega, List.drop_append, HNN.out, Nat.sub_self, List.drop_eq_nil_of_le (by rw [HNN.out]; exact Nat.le_refl _), List.nil_append, List.drop_zero, List.take_of_length_le (by rw [HMM.out]; exact Nat.le_refl _)] at sl
        have sl2 : RowIn (W6.alloc (.cells #[.int .i64 mm, .int .i64 y, .int .i64 mo, .int .i64 dd, .int .i64 hh, .int .i64 mi, .int .i64 s, .int .u32 sum, .int .u64 p, .int .u64 z, .string (S nm)] 27)) (some ⟨g5, N, none⟩) M (d5 - N) Y := by (have n0 : N ≠ 0 := (by omega)); simpa [Addr.add, n0] using sl
        have SL := Lib.hid sl2
        have l3 : N + M - N = M := by omega
        have l4 : ((N : Int) + (M : Int) - (N : Int)).toNat = M := by omega
        clear sl sl2
        go_wp2_with fail
        refine (HP2.out _ _ _ SL.out (HT.out.below B6.out)).mono ?_
        rintro e W7 ⟨rfl, hb7⟩
        have hba := hb7.alloc hb7.size (.cells #[.int .i64 mm', .int .i64 y', .int .i64 mo', .int .i64 dd', .int .i64 hh', .int .i64 mi', .int .i64 s', .int .u32 sum', .int .u64 p', .int .u64 z', .string (S nm')] 27)
        have E8 := Lib.hid (Blk.new W7 27 #[.int .i64 mm', .int .i64 y', .int .i64 mo', .int .i64 dd', .int .i64 hh', .int .i64 mi', .int .i64 s', .int .u32 sum', .int .u64 p', .int .u64 z', .string (S nm')])
        have K8 := Lib.hid (K6.out.below K6.out.lt hba)
        have J8 := Lib.hid (J6.out.below J6.out.lt hba)
        have B8 := Lib.hid (B6.out.trans (hba.mono B6.out.size))
        have R8 := Lib.hid (R6.out.below hba)
        have S8 := Lib.hid (S6.out.below hba)
        clear hb7 hba K6 J6 B6 R6 S6 I6 SL E6 e0 e1 e2 e3 e4 e5 e6 e7 e8 e9 e10 f0 f1 f2 f3 f4 f5 f6 f7 f8 f9 f10
        have HSM : Hid (∀ q c1 c2, Calls Tryd.prog 12 #[.slice (some ⟨g2, 0, none⟩) N c1, .slice (some ⟨g3, 0, none⟩) M c2] ((W7.alloc (.cells #[.int .i64 mm', .int .i64 y', .int .i64 mo', .int .i64 dd', .int .i64 hh', .int .i64 mi', .int .i64 s', .int .u32 sum', .int .u64 p', .int .u64 z', .string (S nm')] 27)).drewN q) fun e w' => e = .returned (.bool bq) ∧ ∃ q2, w' = ((W7.alloc (.cells #[.int .i64 mm', .int .i64 y', .int .i64 mo', .int .i64 dd', .int .i64 hh', .int .i64 mi', .int .i64 s', .int .u32 sum', .int .u64 p', .int .u64 z', .string (S nm')] 27)).drewN q).drewN q2) := fun q c1 c2 => by
          have := SameA_c (some ⟨g2, 0, none⟩) (some ⟨g3, 0, none⟩) N M c1 c2 X Y _ (R8.out.drewN q) (S8.out.drewN q)
          rw [HBQ.out] at this
          exact this
        obtain ⟨e0, e1, e2, e3, e4, e5, e6, e7, e8, e9, e10⟩ := elv E8.out
        obtain ⟨f0, f1, f2, f3, f4, f5, f6, f7, f8, f9, f10⟩ := elv K8.out
        obtain ⟨h0, h1, h2, h3, h4, h5, h6, h7, h8, h9, h10⟩ := elv J8.out
        go_wp2_with fail
        cases bq
        case true =>
          cases HEQ.out rfl
          go_region_held3 (fun W' => W'.cell? ⟨W7.heap.size, 0, none⟩ = some (.int .i64 mm) ∧ W'.cell? ⟨W7.heap.size, 1, none⟩ = some (.int .i64 y) ∧ W'.cell? ⟨W7.heap.size, 2, none⟩ = some (.int .i64 mo) ∧ W'.cell? ⟨W7.heap.size, 3, none⟩ = some (.int .i64 dd) ∧ W'.cell? ⟨W7.heap.size, 4, none⟩ = some (.int .i64 hh) ∧ W'.cell? ⟨W7.heap.size, 5, none⟩ = some (.int .i64 mi) ∧ W'.cell? ⟨W7.heap.size, 6, none⟩ = some (.int .i64 s) ∧ W'.cell? ⟨W7.heap.size, 7, none⟩ = some (.int .u32 sum) ∧ W'.cell? ⟨W7.heap.size, 8, none⟩ = some (.int .u64 p) ∧ W'.cell? ⟨W7.heap.size, 9, none⟩ = some (.int .u64 z) ∧ W'.cell? ⟨W7.heap.size, 10, none⟩ = some (.string (S nm)) ∧ W'.cell? ⟨w.heap.size, 0, none⟩ = some (.int .i64 mm) ∧ W'.cell? ⟨w.heap.size, 1, none⟩ = some (.int .i64 y) ∧ W'.cell? ⟨w.heap.size, 2, none⟩ = some (.int .i64 mo) ∧ W'.cell? ⟨w.heap.size, 3, none⟩ = some (.int .i64 dd) ∧ W'.cell? ⟨w.heap.size, 4, none⟩ = some (.int .i64 hh) ∧ W'.cell? ⟨w.heap.size, 5, none⟩ = some (.int .i64 mi) ∧ W'.cell? ⟨w.heap.size, 6, none⟩ = some (.int .i64 s) ∧ W'.cell? ⟨w.heap.size, 7, none⟩ = some (.int .u32 sum) ∧ W'.cell? ⟨w.heap.size, 8, none⟩ = some (.int .u64 p) ∧ W'.cell? ⟨w.heap.size, 9, none⟩ = some (.int .u64 z) ∧ W'.cell? ⟨w.heap.size, 10, none⟩ = some (.string (S nm)) ∧ W'.cell? ⟨(w.heap.size + 1), 0, none⟩ = some (.int .i64 mm) ∧ W'.cell? ⟨(w.heap.size + 1), 1, none⟩ = some (.int .i64 y) ∧ W'.cell? ⟨(w.heap.size + 1), 2, none⟩ = some (.int .i64 mo) ∧ W'.cell? ⟨(w.heap.size + 1), 3, none⟩ = some (.int .i64 dd) ∧ W'.cell? ⟨(w.heap.size + 1), 4, none⟩ = some (.int .i64 hh) ∧ W'.cell? ⟨(w.heap.size + 1), 5, none⟩ = some (.int .i64 mi) ∧ W'.cell? ⟨(w.heap.size + 1), 6, none⟩ = some (.int .i64 s) ∧ W'.cell? ⟨(w.heap.size + 1), 7, none⟩ = some (.int .u32 sum) ∧ W'.cell? ⟨(w.heap.size + 1), 8, none⟩ = some (.int .u64 p) ∧ W'.cell? ⟨(w.heap.size + 1), 9, none⟩ = some (.int .u64 z) ∧ W'.cell? ⟨(w.heap.size + 1), 10, none⟩ = some (.string (S nm))) (go_keep)
            ((first
              | (go_at_call 12
                 refine (HSM.out _ _ _).mono ?_
                 rintro e _ ⟨rfl, q2, rfl⟩)))
          go_wp2
          go_ret
          exact ⟨rfl, below_drewN B8.out _⟩
        case false =>
          have hne := hd_neq _ _ (HNE.out rfl)
          unfold hdV hdC at hne
          dsimp only at hne
          go_region_held3 (fun W' => W'.cell? ⟨W7.heap.size, 0, none⟩ = some (.int .i64 mm') ∧ W'.cell? ⟨W7.heap.size, 1, none⟩ = some (.int .i64 y') ∧ W'.cell? ⟨W7.heap.size, 2, none⟩ = some (.int .i64 mo') ∧ W'.cell? ⟨W7.heap.size, 3, none⟩ = some (.int .i64 dd') ∧ W'.cell? ⟨W7.heap.size, 4, none⟩ = some (.int .i64 hh') ∧ W'.cell? ⟨W7.heap.size, 5, none⟩ = some (.int .i64 mi') ∧ W'.cell? ⟨W7.heap.size, 6, none⟩ = some (.int .i64 s') ∧ W'.cell? ⟨W7.heap.size, 7, none⟩ = some (.int .u32 sum') ∧ W'.cell? ⟨W7.heap.size, 8, none⟩ = some (.int .u64 p') ∧ W'.cell? ⟨W7.heap.size, 9, none⟩ = some (.int .u64 z') ∧ W'.cell? ⟨W7.heap.size, 10, none⟩ = some (.string (S nm')) ∧ W'.cell? ⟨w.heap.size, 0, none⟩ = some (.int .i64 mm) ∧ W'.cell? ⟨w.heap.size, 1, none⟩ = some (.int .i64 y) ∧ W'.cell? ⟨w.heap.size, 2, none⟩ = some (.int .i64 mo) ∧ W'.cell? ⟨w.heap.size, 3, none⟩ = some (.int .i64 dd) ∧ W'.cell? ⟨w.heap.size, 4, none⟩ = some (.int .i64 hh) ∧ W'.cell? ⟨w.heap.size, 5, none⟩ = some (.int .i64 mi) ∧ W'.cell? ⟨w.heap.size, 6, none⟩ = some (.int .i64 s) ∧ W'.cell? ⟨w.heap.size, 7, none⟩ = some (.int .u32 sum) ∧ W'.cell? ⟨w.heap.size, 8, none⟩ = some (.int .u64 p) ∧ W'.cell? ⟨w.heap.size, 9, none⟩ = some (.int .u64 z) ∧ W'.cell? ⟨w.heap.size, 10, none⟩ = some (.string (S nm)) ∧ W'.cell? ⟨(w.heap.size + 1), 0, none⟩ = some (.int .i64 mm') ∧ W'.cell? ⟨(w.heap.size + 1), 1, none⟩ = some (.int .i64 y') ∧ W'.cell? ⟨(w.heap.size + 1), 2, none⟩ = some (.int .i64 mo') ∧ W'.cell? ⟨(w.heap.size + 1), 3, none⟩ = some (.int .i64 dd') ∧ W'.cell? ⟨(w.heap.size + 1), 4, none⟩ = some (.int .i64 hh') ∧ W'.cell? ⟨(w.heap.size + 1), 5, none⟩ = some (.int .i64 mi') ∧ W'.cell? ⟨(w.heap.size + 1), 6, none⟩ = some (.int .i64 s') ∧ W'.cell? ⟨(w.heap.size + 1), 7, none⟩ = some (.int .u32 sum') ∧ W'.cell? ⟨(w.heap.size + 1), 8, none⟩ = some (.int .u64 p') ∧ W'.cell? ⟨(w.heap.size + 1), 9, none⟩ = some (.int .u64 z') ∧ W'.cell? ⟨(w.heap.size + 1), 10, none⟩ = some (.string (S nm'))) (go_keep)
            ((first
              | (go_at_call 12
                 refine (HSM.out _ _ _).mono ?_
                 rintro e _ ⟨rfl, q2, rfl⟩)))
          go_wp2
          go_ret
          exact ⟨rfl, below_drewN B8.out _⟩
      · have bL : (chkH b != 0) = true := by rw [bne_iff_ne]; exact hkb
        have bK : (chkH a != 0) = false := by rw [hka]; rfl
        clear hka hkb
        have i1 : ¬ (300 : Int) < ((S a.nm).size : Int) := by omega
        have i2 : ¬ (300 : Int) < ((S b.nm).size : Int) := by omega
        have j1 : decide ((300 : Int) < ((S a.nm).size : Int)) = false := decide_eq_false i1
        have j2 : decide ((300 : Int) < ((S b.nm).size : Int)) = false := decide_eq_false i2
        have HW := Lib.hid (Write_c a hw (by omega))
        have HV := Lib.hid (Write_c b hw2 (by omega))
        clear hw hw2 ht hsS hsT hb HK i1 i2 hm hm2
        generalize chkH a = K at *
        generalize chkH b = L at *
        obtain ⟨mm, ⟨y, mo, dd, hh, mi, s⟩, sum, p, z, nm⟩ := a
        obtain ⟨mm', ⟨y', mo', dd', hh', mi', s'⟩, sum', p', z', nm'⟩ := b
        unfold hdV hdC at *
        dsimp only at *
        go_enter Tryd.func6, Tryd.ntmps6
        go_wp2_with fail
        refine (HAL.out _ ((HT.out.alloc _).alloc _)).mono ?_
        rintro e W1 ⟨rfl, hb1⟩
        have K1 := Lib.hid (HK2.out.below HK2.out.lt hb1)
        have J1 := Lib.hid (HJ.out.below HJ.out.lt hb1)
        have B1 := Lib.hid (HBL.out.trans (hb1.mono HBL.out.size))
        clear hb1 HK2 HJ HBL HAL
        have c10 := (K1.out.cell 10).trans rfl
        have d10 := (J1.out.cell 10).trans rfl
        have q1 := ld_hd K1.out rfl
        go_wp2_with (with_reducible refine wpList_load_var _ _ (by with_unfolding_all rfl) q1 ?_)
        refine (HW.out _ (HT.out.below B1.out)).mono ?_
        rintro e W2 ⟨A2, N2, d2, rfl, _, hb2⟩
        have J2 := Lib.hid (J1.out.below J1.out.lt hb2)
        have B2 := Lib.hid (B1.out.trans (hb2.mono B1.out.size))
        clear hb2 K1 J1 B1 c10 d10 q1
        have q2 := ld_hd J2.out rfl
        go_wp2_with (with_reducible refine wpList_load_var _ _ (by with_unfolding_all rfl) q2 ?_)
        refine (HV.out _ (HT.out.below B2.out)).mono ?_
        rintro e W3 ⟨A3, N3, d3, rfl, _, hb3⟩
        go_wp2
        go_ret
        exact ⟨rfl, B2.out.trans (hb3.mono B2.out.size)⟩
    · have bK : (chkH a != 0) = true := by rw [bne_iff_ne]; exact hka
      clear hka
      have i1 : ¬ (300 : Int) < ((S a.nm).size : Int) := by omega
      have i2 : ¬ (300 : Int) < ((S b.nm).size : Int) := by omega
      have j1 : decide ((300 : Int) < ((S a.nm).size : Int)) = false := decide_eq_false i1
      have j2 : decide ((300 : Int) < ((S b.nm).size : Int)) = false := decide_eq_false i2
      have HW := Lib.hid (Write_c a hw (by omega))
      have HV := Lib.hid (Write_c b hw2 (by omega))
      clear hw hw2 ht hsS hsT hb HK i1 i2 hm hm2
      generalize chkH a = K at *
      generalize chkH b = L at *
      obtain ⟨mm, ⟨y, mo, dd, hh, mi, s⟩, sum, p, z, nm⟩ := a
      obtain ⟨mm', ⟨y', mo', dd', hh', mi', s'⟩, sum', p', z', nm'⟩ := b
      unfold hdV hdC at *
      dsimp only at *
      go_enter Tryd.func6, Tryd.ntmps6
      go_wp2_with fail
      refine (HAL.out _ ((HT.out.alloc _).alloc _)).mono ?_
      rintro e W1 ⟨rfl, hb1⟩
      have K1 := Lib.hid (HK2.out.below HK2.out.lt hb1)
      have J1 := Lib.hid (HJ.out.below HJ.out.lt hb1)
      have B1 := Lib.hid (HBL.out.trans (hb1.mono HBL.out.size))
      clear hb1 HK2 HJ HBL HAL
      have c10 := (K1.out.cell 10).trans rfl
      have d10 := (J1.out.cell 10).trans rfl
      have q1 := ld_hd K1.out rfl
      go_wp2_with (with_reducible refine wpList_load_var _ _ (by with_unfolding_all rfl) q1 ?_)
      refine (HW.out _ (HT.out.below B1.out)).mono ?_
      rintro e W2 ⟨A2, N2, d2, rfl, _, hb2⟩
      have J2 := Lib.hid (J1.out.below J1.out.lt hb2)
      have B2 := Lib.hid (B1.out.trans (hb2.mono B1.out.size))
      clear hb2 K1 J1 B1 c10 d10 q1
      have q2 := ld_hd J2.out rfl
      go_wp2_with (with_reducible refine wpList_load_var _ _ (by with_unfolding_all rfl) q2 ?_)
      refine (HV.out _ (HT.out.below B2.out)).mono ?_
      rintro e W3 ⟨A3, N3, d3, rfl, _, hb3⟩
      go_wp2
      go_ret
      exact ⟨rfl, B2.out.trans (hb3.mono B2.out.size)⟩
  · obtain ⟨z0, z1, hy0, hy1, hzz⟩ : ∃ z0 z1 : Bool, decide ((300 : Int) < ((S a.nm).size : Int)) = z0 ∧ decide ((300 : Int) < ((S b.nm).size : Int)) = z1 ∧ (z0 || z1) = true := ⟨_, _, rfl, rfl, by
      rw [Bool.or_eq_true, decide_eq_true_iff, decide_eq_true_iff]
      omega⟩
    clear hw hw2 ht hsS hsT hb HK
    obtain ⟨mm, ⟨y, mo, dd, hh, mi, s⟩, sum, p, z, nm⟩ := a
    obtain ⟨mm', ⟨y', mo', dd', hh', mi', s'⟩, sum', p', z', nm'⟩ := b
    unfold hdV hdC at *
    dsimp only at *
    cases z0 <;> cases z1 <;> first | (exact absurd hzz (by decide)) | skip
    all_goals
      go_enter Tryd.func6, Tryd.ntmps6
      go_wp2_with fail
      refine (HAL.out _ ((HT.out.alloc _).alloc _)).mono ?_
      rintro e W1 ⟨rfl, hb1⟩
      have c10 := ((HK2.out.below HK2.out.lt hb1).cell 10).trans rfl
      have d10 := ((HJ.out.below HJ.out.lt hb1).cell 10).trans rfl
      go_wp2
      go_ret
      exact ⟨rfl, HBL.out.trans (hb1.mono HBL.out.size)⟩
end Go.Proofs.YtcclhcbjolelcaaDoor
